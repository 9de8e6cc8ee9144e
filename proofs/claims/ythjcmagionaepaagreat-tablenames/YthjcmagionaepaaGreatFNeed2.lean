/- package life: Needed, Dead. -/
import Derived.Test.YthjcmagionaepaaGreatFNeed
namespace Go.Proofs.YthjcmagionaepaaGreat
open Go.RowKit Kit
set_option linter.unusedVariables false

theorem need_fn {w X : World} {B : Nat} {f : Value} {zs es : List Int} (h : NeedFn w B f zs) (hb : Below w.heap.size w X) (hl : zs.length ≤ 100000) (hs : zs.Pairwise (· ≤ ·)) (hm : ∀ y, y ∈ zs ↔ y ∈ es) (b d : Int) :
    ∃ c, f = .func (.func 69) #[] #[.pointer (some ⟨c, 0, none⟩)] ∧ Calls Tryz.prog 69 #[.agg #[.int .i64 b, .int .i64 d], .pointer (some ⟨c, 0, none⟩)] X fun e w' => e = .returned (.bool (needB b d es)) ∧ Below X.heap.size X w' := by
  obtain ⟨c, r, h1, h2, h3⟩ := h.below hb
  exact ⟨c, h1, fna1_any c r b d zs es X h2 h3.sees hl hs hm⟩
theorem fneeded_any (pv v : Value) (ps : List Th) (es : List Int) (w : World) (h : SeesB w pv ps) (hsm : ps.length ≤ 100000) (hv : Sees w v (iV es)) (hl : es.length ≤ 100000) :
    Calls Tryz.prog 39 #[pv, v] w fun x w' => ∃ r, x = .returned r ∧ RowV w' w.heap.size 3 r (iV (idsT (fun t => needB t.born t.died es) ps)) ∧ Below w.heap.size w w' := by
  have HN : Hid (Calls Tryz.prog 57 #[v] w fun e w' => ∃ f, e = .returned f ∧ NeedFn w' w.heap.size f (sortB es) ∧ Below w.heap.size w w') := fneededAt_any v es w hv hl
  have HI : Hid (∀ (c : Nat) (W : World), NeedFn W w.heap.size (.func (.func 69) #[] #[.pointer (some ⟨c, 0, none⟩)]) (sortB es) → Below w.heap.size w W → Calls Tryz.prog 56 #[pv, .func (.func 69) #[] #[.pointer (some ⟨c, 0, none⟩)]] W fun x w' => ∃ r, x = .returned r ∧ RowV w' w.heap.size 3 r (iV (idsT (fun t => needB t.born t.died es) ps)) ∧ Below w.heap.size w w') := fun c W hf hb =>
    (fids_any 69 #[.pointer (some ⟨c, 0, none⟩)] (fun t => needB t.born t.died es) pv ps W (h.below hb) hsm (enter9 Tryz.func69 (by kernel_rfl) rfl) (fun X t hbx _ => by
      obtain ⟨c', e1, h1⟩ := need_fn hf hbx (by rw [sortB_len]; exact hl) (sortB_le es) (sortB_mem es) t.born t.died
      simp only [Value.func.injEq, Array.mk.injEq, List.cons.injEq, Value.pointer.injEq, Option.some.injEq, Addr.mk.injEq, and_true, true_and] at e1
      subst e1
      exact h1)).mono fun x w' ⟨r, h1, h2, h3⟩ => ⟨r, h1, h2.mono hb.size, bel_tr hb h3⟩
  clear h hsm hv hl
  go_enter Tryz.func39, Tryz.ntmps39
  go_wp2_with fail
  go_at_call 57
  refine HN.out.mono ?_
  rintro e w1 ⟨f, rfl, hf, hb⟩
  obtain ⟨c, r, rfl, hc, hr⟩ := id hf
  have H1 : Hid (NeedFn w1 w.heap.size (.func (.func 69) #[] #[.pointer (some ⟨c, 0, none⟩)]) (sortB es) ∧ Below w.heap.size w w1) := ⟨hf, hb⟩
  clear hf hb hc hr HN
  go_wp2_with fail
  go_at_call 56
  refine (HI.out _ _ H1.out.1 H1.out.2).mono ?_
  rintro x w2 ⟨r, rfl, h2⟩
  have H2 : Hid _ := h2
  clear h2
  go_wp2
  go_ret
  exact ⟨_, rfl, H2.out⟩
end Go.Proofs.YthjcmagionaepaaGreat
