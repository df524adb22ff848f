/- Watch's Tell by facts; when nothing is told. -/
import Derived.Test.YthgfjikhbgippaaDoorWatG
namespace Go.Proofs.YthgfjikhbgippaaDoor.Wat
open Go.RowKit Go.Proofs.YthgfjikhbgippaaDoor.Plain Go.Proofs.YthgfjikhbgippaaDoor.WatP Go.Proofs.YthgfjikhbgippaaDoor.OrdP Go.Proofs.YthgfjikhbgippaaDoor.PhaP Go.Proofs.YthgfjikhbgippaaDoor.FedP Go.Proofs.YthgfjikhbgippaaDoor.Open Go.Proofs.YthgfjikhbgippaaDoor.Sees Go.Proofs.YthgfjikhbgippaaDoor.Box Go.Proofs.YthgfjikhbgippaaDoor.Held Go.Proofs.YthgfjikhbgippaaDoor.Pha Go.Proofs.YthgfjikhbgippaaDoor.Ato
open Go.Proofs.YthgfjikhbgippaaDoor.Fed (hs hs_succ an_hs karr kval jfill9x New_any eight)
set_option linter.unusedVariables false
set_option linter.unusedSimpArgs false
set_option maxRecDepth 100000

/-- a watch's cells -/
def wc (n : Nat) (T : List Int) (b : Bool) (v : Value) (d : Int) : Array Value := ((.int .i64 n :: T.map (Value.int .i64)) ++ [.bool b, v, .int .i64 d]).toArray
/-- behind a fact that is told -/
def TQ (w0 : World) (X n : Nat) (T : List Int) (zs : List Int) (d : Int) (e : Ending) (w' : World) : Prop :=
  ∃ r : RowN, r.zs = zs ∧ e = .returned (.bool (d == 0)) ∧ Hid (J w0 w' [(X, wc n T true r.val d)]) ∧ Hid (Rok w' r)
theorem tell_any (n : Nat) (hn : n ≤ 8) (h : List Int) (X : Nat) (w0 w : World) (hX : w0.heap.size ≤ X) (hL : Lay w0) (b : Bool) (r : RowN) (hr : b = true → Rok w r) (d : Int) (hd : 0 ≤ d ∧ d < 1000) (x : Fc) (hx : Rok w0 x.r) (hx1 : x.r.zs.length ≤ 65536)
    (hJ : J w0 w [(X, wc n (kt n h) b r.val d)]) (D : Int) (hD : D = if (ox n x h || !(if b then fo r.zs x.r.zs else ft x.r.zs)) then d + 1 else d) :
    Calls Tryd.prog 16 #[.pointer (some ⟨X, 0, none⟩), fcv x] w (TQ w0 X n (kt n (kx x h)) x.r.zs D) := by
  have hb := hJ.bx 0 rfl
  have HD := Lib.hid (fun W => draws_any n hn h x W)
  have HF : Hid (∀ W, Hid (Bw w W) → W.cell? ⟨X, 9, none⟩ = some (.bool b) → W.cell? ⟨X, 10, none⟩ = some r.val → Calls Tryd.prog 29 #[.pointer (some ⟨X, 0, none⟩), fcv x] W (Says W (.bool (if b then fo r.zs x.r.zs else ft x.r.zs)))) := Lib.hid fun W hW h9 h10 =>
    follows_any X W ((hL.bw hJ.below).bw hW.out) x ((hx.bw hJ.below).bw hW.out) b r (fun e => (hr e).bw hW.out) h9 h10 (Nat.lt_of_lt_of_le hb.lt hW.out.size)
  generalize (if b then fo r.zs x.r.zs else ft x.r.zs) = f at *
  generalize ox n x h = q at *
  obtain ⟨t0, t1, t2, t3, t4, t5, t6, t7, ht⟩ := eight (kt_len n h hn)
  obtain ⟨u0, u1, u2, u3, u4, u5, u6, u7, hu⟩ := eight (kt_len n (kx x h) hn)
  rw [ht] at HD hJ
  rw [hu] at HD ⊢
  obtain ⟨pw, dr, cp, ⟨Ar, cr, zs⟩, rs⟩ := x
  obtain ⟨Aq, cq, ys⟩ := r
  refine (tell_x n pw dr cp Ar zs.length cr zs (Lib.hid rfl) rs t0 t1 t2 t3 t4 t5 t6 t7 u0 u1 u2 u3 u4 u5 u6 u7 b q f Aq ys.length cq d hd X w0 w D (Lib.hid hD) (Lib.hid hX) hJ (Lib.hid ⟨hx.see, hx1⟩) HD HF).mono ?_
  rintro e w' ⟨A, c, rfl, h1, h2⟩
  exact ⟨⟨A, c, zs⟩, rfl, rfl, h1, h2⟩
theorem tell_nil (x : Fc) (w : World) : Calls Tryd.prog 16 #[.pointer none, fcv x] w (Says w (.bool false)) := by
  obtain ⟨pw, dr, cp, r, rs⟩ := x
  unfold fcv
  simp only
  generalize r.val = rv at *
  go_enter Tryd.func16, Tryd.ntmps16
  go_wp2
  go_ret
  exact ⟨rfl, below_box⟩
/-- the first m facts -/
theorem Sh.take {W : World} {A : Option Addr} {l : List Fc} (h : Sh W A l) (m : Nat) : Sh W A (l.take m) := by
  refine ⟨?_, fun x hx => h.rows x (List.mem_of_mem_take hx), fun x hx => h.bits x (List.mem_of_mem_take hx)⟩
  rcases h.see with h | ⟨b, o, h1, h2, h3⟩
  · refine .inl ?_
    have : ∀ x ∈ l, fcc x = [] := fun x hx => by
      have := List.flatten_eq_nil_iff.1 h (fcc x) (List.mem_map.2 ⟨x, hx, rfl⟩)
      exact this
    cases l with
    | nil => simp
    | cons y l => have := this y List.mem_cons_self; simp [fcc] at this
  · refine .inr ⟨b, o, h1, h2, fun j u hu => h3 j u ?_⟩
    have e : (l.map fcc).flatten = ((l.take m).map fcc).flatten ++ ((l.drop m).map fcc).flatten := by
      rw [← List.flatten_append, ← List.map_append, List.take_append_drop]
    rw [e, List.getElem?_append_left (List.getElem?_eq_some_iff.1 hu).1]
    exact hu
end Go.Proofs.YthgfjikhbgippaaDoor.Wat
