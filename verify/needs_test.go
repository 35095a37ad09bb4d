package verify

import (
	"fmt"
	"slices"
	"testing"

	"chitty/api"
)

// P22.2

// toldNeeds: the answer of Needs that P22.2 tells: of each caveat in order its ID, if neither a discharge nor a caveat ahead of it has it.
func toldNeeds(b api.Bundle) []string {
	var out []string
	if !bundleCan(b) {
		return out
	}
	for _, x := range all(b) {
		for _, c := range x.Caveats {
			has := func(d api.Token) bool { return d.ID == c.ID }
			if c.Third && !slices.ContainsFunc(b.Discharges, has) && !slices.Contains(out, c.ID) {
				out = append(out, c.ID)
			}
		}
	}
	return out
}

// needs: is Needs what is wanted, and what P22.2 tells, and the bundle as it was?
func needs(t *testing.T, why string, b api.Bundle, want ...string) {
	t.Helper()
	was := copiedAll(b)
	if got := Needs(b); !slices.Equal(got, want) {
		t.Errorf("%s: %.100q, not %.100q; %s", why, got, want, briefAll(b))
	}
	if should := toldNeeds(b); !slices.Equal(should, want) {
		t.Errorf("%s: the document tells %.100q, not %.100q", why, should, want)
	}
	if !allAlike(b, was) {
		t.Errorf("%s: changed: %s", why, briefAll(was))
	}
}

func TestNeeds(t *testing.T) {
	three := root("op read", 3, "before 90", 1, 2)
	needs(t, "nothing", of(root()))
	needs(t, "texts alone", of(root("op read", "before 90", "no such thing")))
	needs(t, "none there", of(three), "c3", "c1", "c2")
	needs(t, "the first there", of(three, proof(3)), "c1", "c2")
	needs(t, "the second there", of(three, proof(1)), "c3", "c2")
	needs(t, "the last there", of(three, proof(2)), "c3", "c1")
	needs(t, "two there", of(three, proof(2), proof(3)), "c1")
	needs(t, "all there", of(three, proof(1), proof(2), proof(3)))
	needs(t, "all there, and more", of(three, proof(4), proof(3), proof(2), proof(1), proof(1)))
	needs(t, "others there", of(three, proof(4), proof(5), proofOf("", rootOf(1)), proofOf("c", rootOf(1)), proofOf("C1", rootOf(1)), proofOf("c11", rootOf(1))), "c3", "c1", "c2")
	needs(t, "nothing asked for", of(root("op read"), proof(1), proof(2)))
	needs(t, "the root's own ID", of(root(ask{"me", rootOf(1)})), "me")
	needs(t, "no ID", of(root(ask{"", rootOf(1)})), "")
	needs(t, "no ID, there", of(root(ask{"", rootOf(1)}), proofOf("", rootOf(1))))
	needs(t, "no ID, twice", of(root(ask{"", rootOf(1)}, 1, ask{"", rootOf(2)})), "", "c1")
	needs(t, "a long ID", of(root(ask{long(1024), rootOf(1)}, ask{long(1023), rootOf(1)})), long(1024), long(1023))
	needs(t, "a caveat that isn't Third has none", of(root("c1", "", 1)), "c1")
}

// One ID in several caveats, and in several tokens.
func TestNeedsTellsEachOnce(t *testing.T) {
	needs(t, "twice in the root", of(root(1, 1)), "c1")
	needs(t, "twice in the root, others between", of(root(2, 1, "op read", 3, 1, 2)), "c2", "c1", "c3")
	needs(t, "with unlike roots", of(root(ask{"c1", rootOf(5)}, 1)), "c1")
	needs(t, "in the root and in a discharge", of(root(1, 2), proof(1, 2)), "c2")
	needs(t, "in two discharges", of(root(1, 2), proof(1, 4, 3), proof(2, 3, 5, 4)), "c4", "c3", "c5")
	needs(t, "twice in a discharge", of(root(1), proof(1, 3, 3)), "c3")
	needs(t, "twice, one there", of(root(1, 1), proof(1)))
	var l []any
	for i := range 64 {
		l = append(l, 1+i%2)
	}
	needs(t, "64 times", of(root(l...), proof(9, l...)), "c1", "c2")
}

// The caveats of discharges count, whether anything asks for these or not, and whether they fit or not.
func TestNeedsOfDischarges(t *testing.T) {
	needs(t, "a discharge's", of(root(1), proof(1, "op read", 2)), "c2")
	needs(t, "a discharge's, there", of(root(1), proof(1, 2), proof(2)))
	needs(t, "a discharge's discharge's", of(root(1), proof(1, 2), proof(2, 3)), "c3")
	needs(t, "a discharge's discharge's, ahead", of(root(1), proof(2, 3), proof(1, 2)), "c3")
	needs(t, "the discharges' order", of(root(1, 2), proof(1, 6, 3), proof(2, 5, 4)), "c6", "c3", "c5", "c4")
	needs(t, "the discharges' other order", of(root(1, 2), proof(2, 5, 4), proof(1, 6, 3)), "c5", "c4", "c6", "c3")
	needs(t, "the root's first", of(root(1, 9), proof(1, 3)), "c9", "c3")
	needs(t, "the root's first, one of a discharge between", of(root(9, 1, 8), proof(1, 7)), "c9", "c8", "c7")
	needs(t, "the discharges' order, not that in which they are asked for", of(root(1, 2), proof(3, 6), proof(2, 5), proof(1, 3, 4)), "c6", "c5", "c4")
	needs(t, "its own ID", of(root(1), proof(1, 1)))
	needs(t, "its own ID, and another one", of(root(1), proof(1, 1, 2)), "c2")
	needs(t, "each the other one's", of(root(), proof(1, 2), proof(2, 1)))
	needs(t, "one that nothing asked for", of(root(), proof(1, 2)), "c2")
	needs(t, "one that doesn't fit", of(root(1), proofOf("c1", rootOf(2), 3)), "c3")
	needs(t, "one that is bound", of(root(1, 2), tied(root(1, 2), proof(1, 3)), tied(root(), proof(2, 4))), "c3", "c4")
	needs(t, "one that comes later", of(root(1), proof(1, 2), proof(3, 4), proof(2)), "c4")
	needs(t, "a bad vault", of(root(api.Caveat{Third: true, ID: "c1"}), api.Token{ID: "x", Caveats: []api.Caveat{{Third: true, ID: "y"}}}), "c1", "y")
	needs(t, "a wrong Tag", of(api.Token{Caveats: root(1, 2).Caveats}), "c1", "c2")
}

// 16 discharges of 64 caveats each.
func TestNeedsOfMany(t *testing.T) {
	var own []any
	var want []string
	for i := range 64 {
		own = append(own, ask{fmt.Sprint("root ", i), rootOf(i)})
		want = append(want, fmt.Sprint("root ", i))
	}
	b := of(root(own...))
	needs(t, "the root's 64", b, want...)
	for j := range 16 {
		var l []any
		for i := range 64 {
			l = append(l, ask{fmt.Sprint(j, " has ", i), rootOf(i)})
			want = append(want, fmt.Sprint(j, " has ", i))
		}
		b.Discharges = append(b.Discharges, proofOf(fmt.Sprint("discharge ", j), rootOf(j), l...))
	}
	needs(t, "17 times 64", b, want...)
	for j, d := range b.Discharges {
		b.Discharges[j].ID = fmt.Sprint("root ", j)
		needs(t, "one of them there", b, slices.DeleteFunc(slices.Clone(want), func(s string) bool { return s == fmt.Sprint("root ", j) })...)
		b.Discharges[j].ID = d.ID
	}
	b.Discharges = append(b.Discharges, proof(1))
	needs(t, "a discharge more than there may be", b)
}

func TestNeedsOfBundlesThatCannotBe(t *testing.T) {
	for i, b := range badBundles() {
		needs(t, fmt.Sprint("bad bundle ", i), b)
		b.Root = with(b.Root, 50, 51)
		needs(t, fmt.Sprint("bad bundle ", i, ", with what is needed"), b)
	}
}

// What Verify answers Missing of has something that it needs; where each caveat's ID is another one, what Allow is answered of needs nothing.
func TestNeedsOfBundlesByChance(t *testing.T) {
	lists := map[int]int{}
	for i, b := range byChance(17, 4000) {
		l := toldNeeds(b)
		needs(t, fmt.Sprint("bundle by chance ", i), b, l...)
		lists[len(l)]++
		if len(l) > 0 && Verify(key(), b, visit(), now) == api.Allow {
			t.Errorf("bundle %d is allowed, and needs %q", i, l)
		}
	}
	if lists[0] < 500 || lists[1] < 500 || lists[2] < 50 {
		t.Errorf("%v", lists)
	}
}

// P22.3

// texts: is Texts what is wanted, and the token as it was?
func texts(t *testing.T, why string, x api.Token, want ...string) {
	t.Helper()
	was := copied(x)
	if got := Texts(x); !slices.Equal(got, want) {
		t.Errorf("%s: %.100q, not %.100q", why, got, want)
	}
	if !alike(x, was) {
		t.Errorf("%s: changed", why)
	}
}

func TestTexts(t *testing.T) {
	texts(t, "a zero token", api.Token{})
	texts(t, "no caveats", root())
	texts(t, "texts alone", root("op read", "before 90", "path /a"), "op read", "before 90", "path /a")
	texts(t, "none", root(1, 2, 3))
	texts(t, "both", root(1, "op read", 2, "before 90", 3), "op read", "before 90")
	texts(t, "a text first", root("op read", 2, 3, "before 90"), "op read", "before 90")
	texts(t, "the same twice", root("op read", "op read"), "op read", "op read")
	texts(t, "the same twice, others between", root("op read", 1, "before 90", "op read"), "op read", "before 90", "op read")
	texts(t, "not sorted", root("since 3", "before 90", "op read"), "since 3", "before 90", "op read")
	texts(t, "empty ones", root("", "op read", ""), "", "op read", "")
	texts(t, "a zero caveat", api.Token{Caveats: []api.Caveat{{}}}, "")
	texts(t, "a discharge's", proof(1, "op read", 2), "op read")
	texts(t, "a bound one's", tied(root(), proof(1, "op read", 2)), "op read")
	texts(t, "a wrong Tag's", api.Token{Tag: tagOf(3), Caveats: root("op read").Caveats}, "op read")
	l := strange()
	var some []any
	for _, s := range l {
		some = append(some, s, 1)
	}
	texts(t, "what is no predicate's", root(some...), l...)
}

// Nothing is asked of whether a token can be.
func TestTextsOfTokensThatCannotBe(t *testing.T) {
	texts(t, "a long ID", api.Token{ID: long(1025), Caveats: []api.Caveat{{Text: "op read"}}}, "op read")
	texts(t, "a long text", root(long(513), "op read"), long(513), "op read")
	texts(t, "a third party's text", root(api.Caveat{Third: true, Text: "op list"}, "op read"), "op read")
	texts(t, "a text with a party", root(api.Caveat{Text: "op list", Party: 1, ID: "a", Vault: "b"}, "op read"), "op list", "op read")
	texts(t, "an ID alone", root(api.Caveat{ID: "a"}), "")
	for _, many := range []int{63, 64, 65, 1000} {
		var l []any
		var want []string
		for i := range many {
			l = append(l, fmt.Sprint("before ", i))
			want = append(want, fmt.Sprint("before ", i))
		}
		texts(t, fmt.Sprint(many, " texts"), root(l...), want...)
	}
}

// The answers are new memory, and what is behind the lists that are handed in is neither looked at nor changed.
func TestListsHaveNewMemory(t *testing.T) {
	for i, b := range append(byChance(19, 500), wide(16), of(root(1, 2, "op read", 3), proof(4, 5, 6, "before 90"))) {
		x := roomyAll(b)
		one, two := Needs(x), Needs(x)
		oneText, twoText := Texts(x.Root), Texts(x.Root)
		want, wantText := toldNeeds(b), Texts(copied(b.Root))
		for _, l := range [][]string{one[:cap(one)], oneText[:cap(oneText)]} {
			for j := range l {
				l[j] = "over"
			}
		}
		if !slices.Equal(two, want) || !slices.Equal(twoText, wantText) || !slices.Equal(Needs(x), want) || !slices.Equal(Texts(x.Root), wantText) {
			t.Errorf("bundle %d: what is done to an answer is seen", i)
		}
		if !allAlike(x, b) || !sparedAll(x) {
			t.Errorf("bundle %d: changed", i)
		}
		spoilAll(x)
		if !slices.Equal(two, want) || !slices.Equal(twoText, wantText) {
			t.Errorf("bundle %d: what is done to the bundle is seen", i)
		}
	}
}
