/- A step on a book: what is answered, what it becomes; both books' calls, one contract a call. -/
import Derived.Test.YtbkciencikdacaaFDeath
import Derived.Test.YtbkciencikdacaaRDrop
import Derived.Test.YtbkciencikdacaaLCode
import Derived.Test.YtbkciencikdacaaLStepsL
namespace Go.Proofs.Ytbkciencikdacaa
open Go.RowKit Kit
set_option linter.unusedVariables false
open Classical

/-- Is a step taken? 1 a birth, 2 a death, 3 a drop. -/
def OkS (s : St) (l : List Th) : Prop := if s.kind = 1 then birthOk l s.id s.ep else if s.kind = 2 then deathOk l s.id s.ep else hasT l s.id = true
noncomputable def okB (s : St) (l : List Th) : Bool := decide (OkS s l)
/-- The program's book behind it, and the document's. -/
noncomputable def stepP (s : St) (l : List Th) : List Th :=
  if OkS s l then (if s.kind = 1 then putT l ⟨s.id, s.ep, 0⟩ else if s.kind = 2 then diedT l s.id s.ep else if s.kind = 3 then outT l s.id else l) else l
noncomputable def stepR (s : St) (l : List Th) : List Th :=
  if OkS s l then (if s.kind = 1 then l ++ [⟨s.id, s.ep, 0⟩] else if s.kind = 2 then diedT l s.id s.ep else if s.kind = 3 then outT l s.id else l) else l
theorem okB_yes {s : St} {l : List Th} (h : OkS s l) : okB s l = true := by unfold okB; exact decide_eq_true h
theorem okB_no {s : St} {l : List Th} (h : ¬ OkS s l) : okB s l = false := by unfold okB; exact decide_eq_false h
theorem stepP_no {s : St} {l : List Th} (h : ¬ OkS s l) : stepP s l = l := by unfold stepP; rw [if_neg h]
theorem stepR_no {s : St} {l : List Th} (h : ¬ OkS s l) : stepR s l = l := by unfold stepR; rw [if_neg h]
theorem ok1 {s : St} (hk : s.kind = 1) (l : List Th) : OkS s l ↔ birthOk l s.id s.ep := by unfold OkS; rw [if_pos hk]
theorem ok2 {s : St} (hk : s.kind = 2) (l : List Th) : OkS s l ↔ deathOk l s.id s.ep := by unfold OkS; rw [if_neg (by omega), if_pos hk]
theorem ok3 {s : St} (hk : s.kind = 3) (l : List Th) : OkS s l ↔ hasT l s.id = true := by unfold OkS; rw [if_neg (by omega), if_neg (by omega)]
theorem stepP1 {s : St} {l : List Th} (hk : s.kind = 1) (h : OkS s l) : stepP s l = putT l ⟨s.id, s.ep, 0⟩ := by unfold stepP; rw [if_pos h, if_pos hk]
theorem stepP2 {s : St} {l : List Th} (hk : s.kind = 2) (h : OkS s l) : stepP s l = diedT l s.id s.ep := by unfold stepP; rw [if_pos h, if_neg (by omega), if_pos hk]
theorem stepP3 {s : St} {l : List Th} (hk : s.kind = 3) (h : OkS s l) : stepP s l = outT l s.id := by unfold stepP; rw [if_pos h, if_neg (by omega), if_neg (by omega), if_pos hk]
theorem stepR1 {s : St} {l : List Th} (hk : s.kind = 1) (h : OkS s l) : stepR s l = l ++ [⟨s.id, s.ep, 0⟩] := by unfold stepR; rw [if_pos h, if_pos hk]
theorem stepR2 {s : St} {l : List Th} (hk : s.kind = 2) (h : OkS s l) : stepR s l = diedT l s.id s.ep := by unfold stepR; rw [if_pos h, if_neg (by omega), if_pos hk]
theorem stepR3 {s : St} {l : List Th} (hk : s.kind = 3) (h : OkS s l) : stepR s l = outT l s.id := by unfold stepR; rw [if_pos h, if_neg (by omega), if_neg (by omega), if_pos hk]
theorem stepP_other {s : St} {l : List Th} (h1 : ¬ s.kind = 1) (h2 : ¬ s.kind = 2) (h3 : ¬ s.kind = 3) : stepP s l = l := by
  unfold stepP
  split <;> first | rfl | rw [if_neg h1, if_neg h2, if_neg h3]
theorem stepR_other {s : St} {l : List Th} (h1 : ¬ s.kind = 1) (h2 : ¬ s.kind = 2) (h3 : ¬ s.kind = 3) : stepR s l = l := by
  unfold stepR
  split <;> first | rfl | rw [if_neg h1, if_neg h2, if_neg h3]
theorem okS_perm {a b : List Th} (h : a.Perm b) (s : St) : OkS s a ↔ OkS s b := by
  unfold OkS
  split
  · exact birth_perm h _ _
  · split
    · exact death_perm h _ _
    · rw [has_perm h]
theorem okB_perm {a b : List Th} (h : a.Perm b) (s : St) : okB s a = okB s b := by
  unfold okB
  rw [decide_eq_decide]
  exact okS_perm h s
theorem step_perm {a b : List Th} (h : a.Perm b) (s : St) : (stepP s a).Perm (stepR s b) := by
  unfold stepP stepR
  by_cases ho : OkS s a
  · rw [if_pos ho, if_pos ((okS_perm h s).1 ho)]
    split
    · exact (perm_put a _).trans (h.append_right _)
    · split
      · exact h.map _
      · split
        · exact h.filter _
        · exact h
  · rw [if_neg ho, if_neg (fun e => ho ((okS_perm h s).2 e))]
    exact h
theorem step_asc {a : List Th} (h : Asc a) (s : St) : Asc (stepP s a) := by
  unfold stepP
  by_cases ho : OkS s a
  · rw [if_pos ho]
    split
    · rename_i hk
      unfold OkS at ho
      rw [if_pos hk] at ho
      exact asc_put h ho.2.2
    · split
      · exact asc_died h _ _
      · split
        · exact asc_out h _
        · exact h
  · rw [if_neg ho]; exact h
theorem step_len (a : List Th) (s : St) : (stepP s a).length ≤ a.length + 1 := by
  unfold stepP
  split
  · split
    · rw [(perm_put a _).length_eq]; simp
    · split
      · unfold diedT; simp
      · split
        · unfold outT; have := List.length_filter_le (fun t : Th => decide (t.id ≠ s.id)) a; omega
        · omega
  · omega
/-- What a call of the program answers: nil, or api.ErrArg; its number. -/
def errV (ok : Bool) : Value := if ok then .nilIface else errA
def codeI (ok : Bool) : Int := if ok then 0 else 1
theorem codeI_eq (a b : Bool) : (codeI a == codeI b) = (a == b) := by cases a <;> cases b <;> rfl
theorem codeV_any (ok : Bool) (w : World) : Calls Try.prog 27 #[errV ok] w fun e w' => e = .returned (.int .i64 (codeI ok)) ∧ w' = w := by
  cases ok with
  | true => exact code_nil w
  | false => exact code_num 1 w (by omega) (by omega)
theorem fbirth_any (p B : Nat) (v : Value) (ps : List Th) (s : St) (hk : s.kind = 1) (w : World) (h : BookAt w p B v ps) (hr : Asc ps) (hsm : ps.length ≤ 900) :
    Calls Try.prog 25 #[.pointer (some ⟨p, 0, none⟩), .int .i64 s.id, .int .i64 s.ep] w fun e w' => e = .returned (errV (okB s ps)) ∧ ∃ v', BookAt w' p B v' (stepP s ps) ∧ TurnF (pfoot p v) (pfoot p v') w w' := by
  by_cases ho : OkS s ps
  · rw [okB_yes ho, stepP1 hk ho]
    exact fbirth_good p B v ps s.id s.ep w h hr hsm ((ok1 hk ps).1 ho)
  · rw [okB_no ho, stepP_no ho]
    refine (fbirth_bad _ ps s.id s.ep w h.sees hr (by omega) (.inr fun e => ho ((ok1 hk ps).2 e))).mono ?_
    rintro e w' ⟨rfl, hb⟩
    exact ⟨rfl, v, h.below hb, turnF_below hb⟩
theorem fdeath_any (p B : Nat) (v : Value) (ps : List Th) (s : St) (hk : s.kind = 2) (w : World) (h : BookAt w p B v ps) (hr : Asc ps) (hsm : ps.length ≤ 900) :
    Calls Try.prog 26 #[.pointer (some ⟨p, 0, none⟩), .int .i64 s.id, .int .i64 s.ep] w fun e w' => e = .returned (errV (okB s ps)) ∧ ∃ v', BookAt w' p B v' (stepP s ps) ∧ TurnF (pfoot p v) (pfoot p v') w w' := by
  by_cases ho : OkS s ps
  · rw [okB_yes ho, stepP2 hk ho]
    exact fdeath_good p B v ps s.id s.ep w h hr hsm ((ok2 hk ps).1 ho)
  · rw [okB_no ho, stepP_no ho]
    refine (fdeath_bad p B v ps s.id s.ep w h hr hsm (fun e => ho ((ok2 hk ps).2 e))).mono ?_
    rintro e w' ⟨rfl, hb⟩
    exact ⟨rfl, v, h.below hb, turnF_below hb⟩
theorem fdrop_any (p B : Nat) (v : Value) (ps : List Th) (s : St) (hk : s.kind = 3) (w : World) (h : BookAt w p B v ps) (hr : Asc ps) (hsm : ps.length ≤ 900) :
    Calls Try.prog 28 #[.pointer (some ⟨p, 0, none⟩), .int .i64 s.id] w fun e w' => e = .returned (errV (okB s ps)) ∧ ∃ v', BookAt w' p B v' (stepP s ps) ∧ TurnF (pfoot p v) (pfoot p v') w w' := by
  by_cases ho : OkS s ps
  · rw [okB_yes ho, stepP3 hk ho]
    exact fdrop_good p B v ps s.id w h hr hsm ((ok3 hk ps).1 ho)
  · rw [okB_no ho, stepP_no ho]
    refine (fdrop_bad _ ps s.id w h.sees hr (by omega) (by cases hh : hasT ps s.id with | false => rfl | true => exact absurd ((ok3 hk ps).2 hh) ho)).mono ?_
    rintro e w' ⟨rfl, hb⟩
    exact ⟨rfl, v, h.below hb, turnF_below hb⟩
theorem turnF_refl (F : Nat → Prop) (w : World) : TurnF F F w w := turnF_below (Below.refl _ _)
theorem rbirth_any (q B : Nat) (iv sv : Value) (rs : List Th) (s : St) (hk : s.kind = 1) (w : World) (h : RBook w q B iv sv rs) (hsm : rs.length ≤ 900) :
    Calls Try.prog 29 #[.pointer (some ⟨q, 0, none⟩), .int .i64 s.id, .int .i64 s.ep] w fun e w' => e = .returned (.int .i64 (codeI (okB s rs))) ∧ ∃ iv' sv', RBook w' q B iv' sv' (stepR s rs) ∧ TurnF (rfoot q iv sv) (rfoot q iv' sv') w w' := by
  by_cases ho : OkS s rs
  · rw [okB_yes ho, stepR1 hk ho]
    exact rbirth_good q B iv sv rs s.id s.ep w h hsm ((ok1 hk rs).1 ho)
  · rw [okB_no ho, stepR_no ho]
    refine (rbirth_bad q B iv sv rs s.id s.ep w h hsm (fun e => ho ((ok1 hk rs).2 e))).mono ?_
    rintro e w' ⟨rfl, hb⟩
    subst w'
    exact ⟨rfl, iv, sv, h, turnF_refl _ _⟩
theorem rdeath_any (q B : Nat) (iv sv : Value) (rs : List Th) (s : St) (hk : s.kind = 2) (w : World) (h : RBook w q B iv sv rs) (hr : Once rs) (hsm : rs.length ≤ 900) :
    Calls Try.prog 30 #[.pointer (some ⟨q, 0, none⟩), .int .i64 s.id, .int .i64 s.ep] w fun e w' => e = .returned (.int .i64 (codeI (okB s rs))) ∧ ∃ iv' sv', RBook w' q B iv' sv' (stepR s rs) ∧ TurnF (rfoot q iv sv) (rfoot q iv' sv') w w' := by
  by_cases ho : OkS s rs
  · rw [okB_yes ho, stepR2 hk ho]
    exact rdeath_good q B iv sv rs s.id s.ep w h hr hsm ((ok2 hk rs).1 ho)
  · rw [okB_no ho, stepR_no ho]
    refine (rdeath_bad q B iv sv rs s.id s.ep w h hr hsm (fun e => ho ((ok2 hk rs).2 e))).mono ?_
    rintro e w' ⟨rfl, hb⟩
    subst w'
    exact ⟨rfl, iv, sv, h, turnF_refl _ _⟩
theorem rdrop_any (q B : Nat) (iv sv : Value) (rs : List Th) (s : St) (hk : s.kind = 3) (w : World) (h : RBook w q B iv sv rs) (hr : Once rs) (hsm : rs.length ≤ 900) :
    Calls Try.prog 31 #[.pointer (some ⟨q, 0, none⟩), .int .i64 s.id] w fun e w' => e = .returned (.int .i64 (codeI (okB s rs))) ∧ ∃ iv' sv', RBook w' q B iv' sv' (stepR s rs) ∧ TurnF (rfoot q iv sv) (rfoot q iv' sv') w w' := by
  by_cases ho : OkS s rs
  · rw [okB_yes ho, stepR3 hk ho]
    exact rdrop_good q B iv sv rs s.id w h hr hsm ((ok3 hk rs).1 ho)
  · rw [okB_no ho, stepR_no ho]
    refine (rdrop_none q B iv sv rs s.id w h hsm (by cases hh : hasT rs s.id with | false => rfl | true => exact absurd ((ok3 hk rs).2 hh) ho)).mono ?_
    rintro e w' ⟨rfl, hb⟩
    subst w'
    exact ⟨rfl, iv, sv, h, turnF_refl _ _⟩
theorem foot_apart {w : World} {p q B C : Nat} {v iv sv : Value} {ps rs : List Th} {is : List Int} (hp : BookAt w p B v ps) (hr : RBk w q C iv sv is rs) : ∀ k, rfoot q iv sv k → ¬ pfoot p v k := by
  intro k hk hk2
  obtain ⟨cs, t, h1, h2⟩ := hr.obj k hk
  have h3 : ∃ ds u, w.heap[k]? = some (.cells ds u) ∧ (u = 57 ∨ u = 67) := by
    rcases hk2 with rfl | hk2
    · exact ⟨_, _, hp.cell, .inl rfl⟩
    · obtain ⟨cur, hc⟩ := rowE_obj hp.row hk2
      exact ⟨_, _, hc, .inr rfl⟩
  obtain ⟨ds, u, h4, h5⟩ := h3
  refine obj_ne h1 h4 ?_ rfl
  rcases h2 with rfl | rfl | rfl <;> rcases h5 with rfl | rfl <;> decide
def bfoot (p q : Nat) (v iv sv : Value) (k : Nat) : Prop := pfoot p v k ∨ rfoot q iv sv k
/-- The program's call, then the document's. -/
theorem both_step {w w1 w2 : World} {p q B C : Nat} {v v' iv sv iv' sv' : Value} {ps ps' rs rs' : List Th} (hp : BookAt w p B v ps) (hr : RBook w q C iv sv rs) (h1 : BookAt w1 p B v' ps') (t1 : TurnF (pfoot p v) (pfoot p v') w w1) (h2 : RBook w2 q C iv' sv' rs') (t2 : TurnF (rfoot q iv sv) (rfoot q iv' sv') w1 w2) :
    BookAt w2 p B v' ps' ∧ RBook w2 q C iv' sv' rs' ∧ TurnF (bfoot p q v iv sv) (bfoot p q v' iv' sv') w w2 := by
  have hr1 : RBook w1 q C iv sv rs := RBk.stay hr t1 (foot_apart hp hr)
  have hap := foot_apart h1 hr1
  exact ⟨h1.stay t2 (fun k hk e => hap k e hk), h2, (t1.wider (G := rfoot q iv sv)).trans (t2.widerR (G := pfoot p v'))⟩
theorem both_mid {w w1 : World} {p q B C : Nat} {v v' iv sv : Value} {ps rs : List Th} (hp : BookAt w p B v ps) (hr : RBook w q C iv sv rs) (t1 : TurnF (pfoot p v) (pfoot p v') w w1) : RBook w1 q C iv sv rs := RBk.stay hr t1 (foot_apart hp hr)
end Go.Proofs.Ytbkciencikdacaa
