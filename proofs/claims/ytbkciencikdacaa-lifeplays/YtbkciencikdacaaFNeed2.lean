/- package life: Needed, Dead. -/
import Derived.Test.YtbkciencikdacaaFNeed
namespace Go.Proofs.Ytbkciencikdacaa
open Go.RowKit Kit
set_option linter.unusedVariables false

theorem need_fn {w X : World} {B : Nat} {f : Value} {zs es : List Int} (h : NeedFn w B f zs) (hb : Below w.heap.size w X) (hl : zs.length ≤ 100000) (hs : zs.Pairwise (· ≤ ·)) (hm : ∀ y, y ∈ zs ↔ y ∈ es) (b d : Int) :
    ∃ c, f = .func (.func 50) #[] #[.pointer (some ⟨c, 0, none⟩)] ∧ Calls Try.prog 50 #[.agg #[.int .i64 b, .int .i64 d], .pointer (some ⟨c, 0, none⟩)] X fun e w' => e = .returned (.bool (needB b d es)) ∧ Below X.heap.size X w' := by
  obtain ⟨c, r, h1, h2, h3⟩ := h.below hb
  exact ⟨c, h1, fna1_any c r b d zs es X h2 h3.sees hl hs hm⟩
theorem fneeded_any (pv v : Value) (ps : List Th) (es : List Int) (w : World) (h : SeesB w pv ps) (hsm : ps.length ≤ 100000) (hv : Sees w v (iV es)) (hl : es.length ≤ 100000) :
    Calls Try.prog 16 #[pv, v] w fun x w' => ∃ r, x = .returned r ∧ RowV w' w.heap.size 3 r (iV (idsT (fun t => needB t.born t.died es) ps)) ∧ Below w.heap.size w w' := by
  have HN : Hid (Calls Try.prog 36 #[v] w fun e w' => ∃ f, e = .returned f ∧ NeedFn w' w.heap.size f (sortB es) ∧ Below w.heap.size w w') := fneededAt_any v es w hv hl
  have HI : Hid (∀ (c : Nat) (W : World), NeedFn W w.heap.size (.func (.func 50) #[] #[.pointer (some ⟨c, 0, none⟩)]) (sortB es) → Below w.heap.size w W → Calls Try.prog 34 #[pv, .func (.func 50) #[] #[.pointer (some ⟨c, 0, none⟩)]] W fun x w' => ∃ r, x = .returned r ∧ RowV w' w.heap.size 3 r (iV (idsT (fun t => needB t.born t.died es) ps)) ∧ Below w.heap.size w w') := fun c W hf hb =>
    (fids_any 50 #[.pointer (some ⟨c, 0, none⟩)] (fun t => needB t.born t.died es) pv ps W (h.below hb) hsm (enter9 Try.func50 (by kernel_rfl) rfl) (fun X t hbx _ => by
      obtain ⟨c', e1, h1⟩ := need_fn hf hbx (by rw [sortB_len]; exact hl) (sortB_le es) (sortB_mem es) t.born t.died
      simp only [Value.func.injEq, Array.mk.injEq, List.cons.injEq, Value.pointer.injEq, Option.some.injEq, Addr.mk.injEq, and_true, true_and] at e1
      subst e1
      exact h1)).mono fun x w' ⟨r, h1, h2, h3⟩ => ⟨r, h1, h2.mono hb.size, bel_tr hb h3⟩
  clear h hsm hv hl
  go_enter Try.func16, Try.ntmps16
  go_wp2_with fail
  go_at_call 36
  refine HN.out.mono ?_
  rintro e w1 ⟨f, rfl, hf, hb⟩
  obtain ⟨c, r, rfl, hc, hr⟩ := id hf
  have H1 : Hid (NeedFn w1 w.heap.size (.func (.func 50) #[] #[.pointer (some ⟨c, 0, none⟩)]) (sortB es) ∧ Below w.heap.size w w1) := ⟨hf, hb⟩
  clear hf hb hc hr HN
  go_wp2_with fail
  go_at_call 34
  refine (HI.out _ _ H1.out.1 H1.out.2).mono ?_
  rintro x w2 ⟨r, rfl, h2⟩
  have H2 : Hid _ := h2
  clear h2
  go_wp2
  go_ret
  exact ⟨_, rfl, H2.out⟩
theorem fdead1_any (c k : Nat) (b d : Int) (es : List Int) (w : World) (hk : w.heap[k]? = some (.cells #[.func (.func 50) #[] #[.pointer (some ⟨c, 0, none⟩)]] 70))
    (hn : ∀ X, Below w.heap.size w X → Calls Try.prog 50 #[.agg #[.int .i64 b, .int .i64 d], .pointer (some ⟨c, 0, none⟩)] X fun e w' => e = .returned (.bool (needB b d es)) ∧ Below X.heap.size X w') :
    Calls Try.prog 38 #[.agg #[.int .i64 b, .int .i64 d], .pointer (some ⟨k, 0, none⟩)] w fun e w' => e = .returned (.bool (!needB b d es)) ∧ Below w.heap.size w w' := by
  have q0 : w.cell? ⟨k, 0, none⟩ = some (.func (.func 50) #[] #[.pointer (some ⟨c, 0, none⟩)]) := blk_cell hk rfl
  have hl : k < w.heap.size := blk_lt hk
  have HN : Hid (∀ X, Below w.heap.size w X → Calls Try.prog 50 #[.agg #[.int .i64 b, .int .i64 d], .pointer (some ⟨c, 0, none⟩)] X fun e w' => e = .returned (.bool (needB b d es)) ∧ Below X.heap.size X w') := hn
  clear hk hn
  go_enter Try.func38, Try.ntmps38
  go_wp2_with fail
  go_at_call 50
  refine (HN.out _ (bel_newG _ _)).mono ?_
  rintro r w2 ⟨rfl, hb⟩
  have HB : Hid (Below w.heap.size w w2) := bel_tr (bel_newG _ _) hb
  clear hb
  go_wp2
  go_ret
  exact ⟨by first | rfl | simp, HB.out⟩
theorem fdead_any (pv v : Value) (ps : List Th) (es : List Int) (w : World) (h : SeesB w pv ps) (hsm : ps.length ≤ 100000) (hv : Sees w v (iV es)) (hl : es.length ≤ 100000) :
    Calls Try.prog 18 #[pv, v] w fun x w' => ∃ r, x = .returned r ∧ RowV w' w.heap.size 3 r (iV (idsT (fun t => !needB t.born t.died es) ps)) ∧ Below w.heap.size w w' := by
  have HN : Hid (Calls Try.prog 36 #[v] w fun e w' => ∃ f, e = .returned f ∧ NeedFn w' w.heap.size f (sortB es) ∧ Below w.heap.size w w') := fneededAt_any v es w hv hl
  have HI : Hid (∀ (c k : Nat) (W : World), NeedFn W w.heap.size (.func (.func 50) #[] #[.pointer (some ⟨c, 0, none⟩)]) (sortB es) → W.heap[k]? = some (.cells #[.func (.func 50) #[] #[.pointer (some ⟨c, 0, none⟩)]] 70) → Below w.heap.size w W → Calls Try.prog 34 #[pv, .func (.func 38) #[] #[.pointer (some ⟨k, 0, none⟩)]] W fun x w' => ∃ r, x = .returned r ∧ RowV w' w.heap.size 3 r (iV (idsT (fun t => !needB t.born t.died es) ps)) ∧ Below w.heap.size w w') := fun c k W hf hk hb =>
    (fids_any 38 #[.pointer (some ⟨k, 0, none⟩)] (fun t => !needB t.born t.died es) pv ps W (h.below hb) hsm (enter9 Try.func38 (by kernel_rfl) rfl) (fun X t hbx _ => fdead1_any c k t.born t.died es X (blk_below hbx hk) fun Y hby => by
      obtain ⟨c', e1, h1⟩ := need_fn hf (bel_tr hbx hby) (by rw [sortB_len]; exact hl) (sortB_le es) (sortB_mem es) t.born t.died
      simp only [Value.func.injEq, Array.mk.injEq, List.cons.injEq, Value.pointer.injEq, Option.some.injEq, Addr.mk.injEq, and_true, true_and] at e1
      subst e1
      exact h1)).mono fun x w' ⟨r, h1, h2, h3⟩ => ⟨r, h1, h2.mono hb.size, bel_tr hb h3⟩
  clear h hsm hv hl
  go_enter Try.func18, Try.ntmps18
  go_wp2_with fail
  go_at_call 36
  refine HN.out.mono ?_
  rintro e w1 ⟨f, rfl, hf, hb⟩
  obtain ⟨c, r, rfl, hc, hr⟩ := id hf
  obtain ⟨W, hW⟩ : ∃ z, z = w1.alloc (.cells #[.func (.func 50) #[] #[.pointer (some ⟨c, 0, none⟩)]] 70) := ⟨_, rfl⟩
  have H1 : Hid (NeedFn W w.heap.size (.func (.func 50) #[] #[.pointer (some ⟨c, 0, none⟩)]) (sortB es) ∧ W.heap[w1.heap.size]? = some (.cells #[.func (.func 50) #[] #[.pointer (some ⟨c, 0, none⟩)]] 70) ∧ Below w.heap.size w W) := by
    have hbe : Below w1.heap.size w1 W := by rw [hW]; exact bel_newG _ _
    exact ⟨hf.below hbe, by rw [hW]; exact (MapKept.heap_alloc w1 _).1, bel_tr hb hbe⟩
  clear hf hb hc hr HN
  have hst := fun (a : Addr) (m : Mode) (w : World) => run_store Try.prog w a (.func (.func 50) #[] #[.pointer (some ⟨c, 0, none⟩)]) m rfl
  go_upto_region 2 with fail
  clear hst
  rw [← hW]
  clear hW
  go_wp2_with fail
  go_at_call 34
  refine (HI.out _ _ _ H1.out.1 H1.out.2.1 H1.out.2.2).mono ?_
  rintro x w2 ⟨r, rfl, h2⟩
  have H2 : Hid _ := h2
  clear h2
  go_wp2
  go_ret
  exact ⟨_, rfl, H2.out⟩
end Go.Proofs.Ytbkciencikdacaa
