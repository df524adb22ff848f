/- Plain: lines that are too long, or have a space too many. -/
import Derived.Test.YtjkpmppjnklajaaGreatDoorScrM
namespace Go.Proofs.YtjkpmppjnklajaaGreatDoor.Scr
open Go.Lib Go.Proofs.YtjkpmppjnklajaaGreatDoor.ScrP
set_option linter.unusedVariables false
set_option linter.unusedSimpArgs false

theorem ev_tail : ∀ (es : List E), (∀ e ∈ es, e.In) → ev (es.flatMap evw ++ [[]]) = none := by
  intro es
  induction es with
  | nil =>
    intro _
    show ev [[]] = none
    rw [ev_cons]
    have h : kd [] = none := by decide
    rw [h]; rfl
  | cons e es ih =>
    intro h
    have hi := ih fun x hx => h x (List.mem_cons_of_mem _ hx)
    have he := h e List.mem_cons_self
    rw [List.flatMap_cons, List.append_assoc]
    cases hk : isK e
    · rw [evw_no hk, List.nil_append, hi]
    · obtain ⟨k1, k2⟩ := kd_kw (of_decide_eq_true hk)
      rw [evw_yes hk, List.cons_append, ev_cons, k2]
      simp only [Option.bind_some]
      unfold evt
      rw [List.append_assoc, rd_itoa he.1]
      simp only [Option.bind_some]
      rw [rd_itoa he.2]
      simp only [Option.bind_some, hi, Option.map_none]
theorem ws_sp (t : T) : ∀ y ∈ ws t, (32 : UInt8) ∉ y := by
  intro y hy
  unfold ws hd4 at hy
  rcases List.mem_append.1 hy with hy | hy
  · simp only [List.mem_cons, List.not_mem_nil, or_false] at hy
    rcases hy with rfl | rfl | rfl | rfl
    · exact (gv_sp _).1
    · exact (gv_sp _).2
    · exact itoa_sp _
    · exact digs_sp (dec_digs _)
  · obtain ⟨e, he, hy⟩ := List.mem_flatMap.1 hy
    exact evw_sp e y hy
theorem sp_tail (t : T) : sp (put t ++ [32]) = ws t ++ [[]] := by
  have h : put t ++ [32] = join (ws t ++ [[]]) [32] := by
    unfold put
    have := join_app (gv t.m wMains) ([gv t.g wGen, itoa t.cap, decDigits t.bl] ++ t.es.flatMap evw) [[]]
    exact this.symm
  rw [h]
  refine sp_join _ _ fun y hy => ?_
  have hy : y ∈ ws t ++ [[]] := hy
  rcases List.mem_append.1 hy with hy | hy
  · exact ws_sp t y hy
  · rw [List.mem_singleton.1 hy]; simp
theorem sp_front (t : T) : sp ([32] ++ put t) = [] :: ws t := by
  have h := sp_cut (a := []) (by simp) (put t)
  rw [sp_put] at h
  exact h
theorem prs_tail {t : T} (h : t.In) : prs (put t ++ [32]) = none := by
  unfold prs
  rw [sp_tail]
  have e : ev (t.es.flatMap evw ++ [[]]) = none := ev_tail t.es h.es
  show (if _ then _ else _) = _
  have e1 : (gv t.m wMains = wMains ∨ gv t.m wMains = wNone) ∧ (gv t.g wGen = wGen ∨ gv t.g wGen = wNone) := by
    cases t.m <;> cases t.g <;> exact ⟨by decide, by decide⟩
  rw [if_pos e1]
  have e2 : ∀ x : List By, x = t.es.flatMap evw ++ [[]] → ((num (itoa t.cap)).bind fun c => (bit (decDigits t.bl)).bind fun b => (ev x).map fun es => (⟨decide (gv t.m wMains = wMains), decide (gv t.g wGen = wGen), c, b, es⟩ : T)) = none := by
    intro x hx
    rw [hx, e]
    cases num (itoa t.cap) <;> cases bit (decDigits t.bl) <;> rfl
  exact e2 _ rfl
theorem prs_front (t : T) : prs ([32] ++ put t) = none := by
  unfold prs
  rw [sp_front]
  show (if _ then _ else _) = _
  rw [if_neg]
  rintro ⟨h | h, _⟩ <;> revert h <;> decide
theorem pr_tail {t : T} (h : t.In) (hn : t.es.length ≤ 60) : pr (put t ++ [32]) = (t0, 11) := by
  have := put_len h t.es h.es
  have : (put t).length ≤ 60 + 60 * t.es.length := this
  unfold pr
  rw [if_neg (by simp; omega), prs_tail h]
theorem pr_front {t : T} (h : t.In) (hn : t.es.length ≤ 60) : pr ([32] ++ put t) = (t0, 11) := by
  have := put_len h t.es h.es
  have : (put t).length ≤ 60 + 60 * t.es.length := this
  unfold pr
  rw [if_neg (by simp; omega), prs_front]
theorem pr_long {l : By} (h : 4096 < l.length) : pr l = (t0, 13) := by unfold pr; rw [if_pos h]
theorem pr_put {t : T} (h : t.In) (hn : t.es.length ≤ 60) : pr (put t) = (t.nrm, 0) := by
  have := put_len h t.es h.es
  have : (put t).length ≤ 60 + 60 * t.es.length := this
  unfold pr
  rw [if_neg (by omega), prs_put h]
end Go.Proofs.YtjkpmppjnklajaaGreatDoor.Scr
