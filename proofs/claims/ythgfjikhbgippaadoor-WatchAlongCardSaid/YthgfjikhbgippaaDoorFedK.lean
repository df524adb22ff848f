/- Contracts of what is known of a capacity. -/
import Derived.Test.YthgfjikhbgippaaDoorFedA0
import Derived.Laws.CopyOwn
namespace Go.Proofs.YthgfjikhbgippaaDoor.Fed
open Go.RowKit Go.Proofs.YthgfjikhbgippaaDoor.FedP Go.Proofs.YthgfjikhbgippaaDoor.Box Go.Proofs.YthgfjikhbgippaaDoor.Held
set_option linter.unusedVariables false

/-- what is known, as cells, as a value: how late; what was told -/
def karr (n : Nat) (t : List Int) : Array Value := (Value.int .i64 n :: t.map (Value.int .i64)).toArray
def kval (n : Nat) (t : List Int) : Value := .agg (karr n t)

theorem New_any (lag : Int) (n : Nat) (hn : bo lag 0 8 = n) (w : World) : Calls Tryd.prog 21 #[.int .i64 lag] w (Says w (kval n [0, 0, 0, 0, 0, 0, 0, 0])) := by
  have HB := Lib.hid (bounded_any lag 0 8)
  rw [hn] at HB
  clear hn
  unfold kval karr
  simp only [List.map_cons, List.map_nil]
  generalize (n : Int) = m at *
  go_enter Tryd.func21, Tryd.ntmps21
  go_wp2_with (go_at_call 34; refine (HB.out _).mono ?_; rintro e w' ⟨rfl, rfl⟩)
  refine bodyPost_ret (v := .agg #[.int .i64 m, .int .i64 0, .int .i64 0, .int .i64 0, .int .i64 0, .int .i64 0, .int .i64 0, .int .i64 0, .int .i64 0]) (by simp [results, Tryd.results21, go_sem, *]) rfl ⟨rfl, below_box⟩

end Go.Proofs.YthgfjikhbgippaaDoor.Fed
