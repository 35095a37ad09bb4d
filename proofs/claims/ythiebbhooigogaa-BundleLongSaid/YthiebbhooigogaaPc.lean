/- LAYER 10: package packet: its contracts (Pca: Check; Pcb: Caveat; Pcc: Encode; Pcd: Same, Clone; Pcg: Decode). -/
import Derived.Test.YthiebbhooigogaaPcd
import Derived.Test.YthiebbhooigogaaPcg
