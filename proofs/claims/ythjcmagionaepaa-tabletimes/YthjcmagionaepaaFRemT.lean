/- package table: Remove. -/
import Derived.Test.YthjcmagionaepaaFAddT
namespace Go.Proofs.Ythjcmagionaepaa
open Go.RowKit Kit
set_option linter.unusedVariables false

/-- What ends is the last row of the name. -/
theorem endR_filter {t : Tb} (h : Inv t) (name : ByteArray) (ep : Int) {xs : List Rw} (hx : xs = t.rs.filter (ofN name)) (ho : t.rs.any (openP name) = true) :
    ∃ (h0 : 0 < xs.length), ∀ s, (endR t.rs name ep).filter (ofN s) = if s = name then xs.set (xs.length - 1) { (xs[xs.length - 1]'(by omega)) with died := ep } else t.rs.filter (ofN s) := by
  have hk := seatP_any.1 ho
  obtain ⟨s1, s2⟩ := seatP_at (openP name) t.rs
  have hop := s2 hk
  obtain ⟨k, hkk⟩ : ∃ k, k = seatP (openP name) t.rs := ⟨_, rfl⟩
  have he : endR t.rs name ep = t.rs.set k { (t.rs[k]'(by rw [hkk]; exact hk)) with died := ep } := by
    unfold endR
    rw [dif_pos hk]
    subst hkk
    rfl
  have hkl : k < t.rs.length := by rw [hkk]; exact hk
  have hok : openP name t.rs[k] = true := by subst hkk; exact hop
  rw [he]
  obtain ⟨hn1, hn2⟩ := open_iff.1 hok
  obtain ⟨r, hr⟩ : ∃ r, r = t.rs[k] := ⟨_, rfl⟩
  obtain ⟨pre, hpre⟩ : ∃ l, l = t.rs.take k := ⟨_, rfl⟩
  obtain ⟨post, hpost⟩ : ∃ l, l = t.rs.drop (k + 1) := ⟨_, rfl⟩
  have hsplit : t.rs = pre ++ r :: post := by
    rw [hpre, hpost, hr, ← List.drop_eq_getElem_cons hkl, List.take_append_drop]
  have hpl : pre.length = k := by rw [hpre, List.length_take]; omega
  have hpostn : ∀ x ∈ post, x.name ≠ name := fun x hxp e => by
    have h1 := h.nxt
    rw [hsplit, List.pairwise_append] at h1
    have h2 := (List.pairwise_cons.1 h1.2.1).1 x hxp (by rw [hr, hn1, e])
    rw [hr] at h2
    exact h2.1 hn2
  have hpf : post.filter (ofN name) = [] := List.filter_eq_nil_iff.2 (fun x hx2 => by rw [ofN_iff]; exact hpostn x hx2)
  have hrn : r.name = name := by rw [hr]; exact hn1
  have hxs : xs = pre.filter (ofN name) ++ [r] := by
    rw [hx, hsplit, List.filter_append, List.filter_cons_of_pos (by rw [ofN_iff]; exact hrn), hpf]
  have hset : t.rs.set k { t.rs[k] with died := ep } = pre ++ { r with died := ep } :: post := by
    rw [← hr]
    conv => lhs; rw [hsplit]
    rw [← hpl, List.set_append_right _ _ (Nat.le_refl _)]
    simp
  refine ⟨by rw [hxs]; simp, fun s => ?_⟩
  rw [hset]
  by_cases hs : s = name
  · subst hs
    rw [if_pos rfl, List.filter_append, List.filter_cons_of_pos (by rw [ofN_iff]; exact hrn), hpf]
    subst hxs
    have e1 : (pre.filter (ofN s) ++ [r]).length - 1 = (pre.filter (ofN s)).length := by simp
    have e2 : ∀ (i : Nat) (hi : i < (pre.filter (ofN s) ++ [r]).length), i = (pre.filter (ofN s)).length → (pre.filter (ofN s) ++ [r])[i] = r := fun i hi e => by subst e; simp
    rw [e2 _ _ e1, e1, List.set_append_right _ _ (Nat.le_refl _)]
    simp
  · rw [if_neg hs]
    conv => rhs; rw [hsplit]
    rw [List.filter_append, List.filter_append, List.filter_cons_of_neg (by rw [ofN_iff, hrn]; exact fun e => hs e.symm), List.filter_cons_of_neg (by rw [ofN_iff]; show ¬ r.name = s; rw [hrn]; exact fun e => hs e.symm)]
set_option maxRecDepth 4000 in
theorem trem_arg {w : World} {p B : Nat} {mo : Option Nat} {g : ByteArray → Option Value} {t : Tb} (name : ByteArray) (ep : Int) (h : TabAt w p B mo g t) (hm : mayB t.last name ep = false) :
    Calls Try.prog 8 #[.pointer (some ⟨p, 0, none⟩), .string name, .int .i64 ep] w fun x w' => x = .returned (errN 1) ∧ w' = w := by
  have HT : Hid (Calls Try.prog 13 #[.pointer (some ⟨p, 0, none⟩), .string name, .int .i64 ep] w fun x w' => x = .returned (.bool false) ∧ w' = w) := by have := ttakes_any h.cell name ep; rw [hm] at this; exact this
  clear hm h
  go_enter Try.func8, Try.ntmps8
  go_wp2_with (go_at_call 13; refine HT.out.mono ?_; rintro e w1 ⟨rfl, hw⟩; subst w1)
  go_ret
  exact ⟨rfl, rfl⟩
set_option maxRecDepth 4000 in
theorem trem_none {w : World} {p B : Nat} {mo : Option Nat} {g : ByteArray → Option Value} {t : Tb} (name : ByteArray) (ep : Int) (h : TabAt w p B mo g t) (hl : t.rs.length ≤ 900) (hnm : name.size ≤ maxLen) (hm : mayB t.last name ep = true) (ho : leadsB (t.rs.filter (ofN name)) = false) :
    Calls Try.prog 8 #[.pointer (some ⟨p, 0, none⟩), .string name, .int .i64 ep] w fun x w' => x = .returned (errN 5) ∧ w' = w := by
  have HT : Hid (Calls Try.prog 13 #[.pointer (some ⟨p, 0, none⟩), .string name, .int .i64 ep] w fun x w' => x = .returned (.bool true) ∧ w' = w) := by have := ttakes_any h.cell name ep; rw [hm] at this; exact this
  have HL : Hid (Calls Try.prog 14 #[rv g name] w fun x w' => x = .returned (.bool false) ∧ w' = w) := by have := tleads_any (rv g name) _ w (h.rows.rowv name).sees (Nat.le_trans (List.length_filter_le _ _) (by omega)); rw [ho] at this; exact this
  have hlk := h.rows.lookup (Below.refl _ w) hnm
  have q0 : w.cell? ⟨p, 0, none⟩ = some (.map mo) := blk_cell h.cell rfl
  obtain ⟨v, hv⟩ : ∃ v, v = rv g name := ⟨_, rfl⟩
  rw [← hv] at HL hlk
  clear h hl hnm hm ho hv
  go_enter Try.func8, Try.ntmps8
  go_wp2_with (first
    | (go_at_call 13; refine HT.out.mono ?_; rintro e w1 ⟨rfl, hw⟩; subst w1)
    | (go_at_call 14; refine HL.out.mono ?_; rintro e w1 ⟨rfl, hw⟩; subst w1))
  go_ret
  exact ⟨rfl, rfl⟩
set_option maxRecDepth 4000 in
set_option maxHeartbeats 4000000 in
theorem trem_good {w : World} {p B : Nat} {mo : Option Nat} {g : ByteArray → Option Value} {t : Tb} (name : ByteArray) (ep : Int) (h : TabAt w p B mo g t) (hi : Inv t) (hl : t.rs.length ≤ 900) (hnm : name.size ≤ maxLen) (hm : mayB t.last name ep = true) (ho : t.rs.any (openP name) = true) :
    Calls Try.prog 8 #[.pointer (some ⟨p, 0, none⟩), .string name, .int .i64 ep] w fun x w' => x = .returned .nilIface ∧ TAt w' p B (tbfoot p mo g) ⟨endR t.rs name ep, ep⟩ ∧ TurnF (tbfoot p mo g) (tbfoot p mo g) w w' := by
  have hled : leadsB (t.rs.filter (ofN name)) = true := by rw [leads_open hi, ho]
  have HT : Hid (Calls Try.prog 13 #[.pointer (some ⟨p, 0, none⟩), .string name, .int .i64 ep] w fun x w' => x = .returned (.bool true) ∧ w' = w) := by have := ttakes_any h.cell name ep; rw [hm] at this; exact this
  have HL : Hid (Calls Try.prog 14 #[rv g name] w fun x w' => x = .returned (.bool true) ∧ w' = w) := by have := tleads_any (rv g name) _ w (h.rows.rowv name).sees (Nat.le_trans (List.length_filter_le _ _) (by omega)); rw [hled] at this; exact this
  have hlk := h.rows.lookup (Below.refl _ w) hnm
  have q0 : w.cell? ⟨p, 0, none⟩ = some (.map mo) := blk_cell h.cell rfl
  obtain ⟨xs, hx⟩ : ∃ xs, xs = t.rs.filter (ofN name) := ⟨_, rfl⟩
  obtain ⟨hx0, hend⟩ := endR_filter hi name ep hx ho
  have hrow := h.rows.rowv name
  simp only [← hx] at hrow
  have hgn : ∃ v, g name = some v := by
    cases e : g name with
    | none =>
      have := h.rows.none name e
      simp only [← hx] at this
      rw [this] at hx0
      exact absurd hx0 (by simp)
    | some v => exact ⟨v, rfl⟩
  obtain ⟨v, hv⟩ := hgn
  have hrv : rv g name = v := by unfold rv; rw [hv]; rfl
  rw [hrv] at HL hlk hrow
  have hxl : xs.length ≤ 900 := by rw [hx]; exact Nat.le_trans (List.length_filter_le _ _) hl
  obtain ⟨gk, cap, hvv, _, hgl, hfz, hcc⟩ := rowE_form hrow hx0
  subst hvv
  obtain ⟨n, hn⟩ : ∃ n, n = xs.length := ⟨_, rfl⟩
  rw [← hn] at HL hlk hrow hv
  have hne : (n - 1) * 4 + 3 = (xs.length - 1) * 4 + 3 := by rw [hn]
  have c3 : w.cell? ⟨gk, (n - 1) * 4 + 3, none⟩ = some (.int .i64 (xs[xs.length - 1]'(by omega)).died) := by rw [hne]; exact hcc (xs.length - 1) (by omega) 3 _ rfl
  obtain ⟨d, hd⟩ : ∃ d, d = (xs[xs.length - 1]'(by omega)).died := ⟨_, rfl⟩
  rw [← hd] at c3
  have f3 := hfz ((n - 1) * 4 + 3)
  have hpg : p ≠ gk := fun e => h.off (.inr ⟨name, _, hv, by rw [e]; rfl⟩)
  obtain ⟨W1, hW1⟩ : ∃ z, z = w.setCell ⟨gk, (n - 1) * 4 + 3, none⟩ (.int .i64 ep) := ⟨_, rfl⟩
  have hm1 : MapR W1 B mo g (fun s => (endR t.rs name ep).filter (ofN s)) := by
    have h1 := rowE_put hrow (xs.length - 1) (by omega) 3 (by decide) (.int .i64 ep) { (xs[xs.length - 1]'(by omega)) with died := ep } rfl
    rw [hW1]
    have h2 := h.rows.turn (w' := w.setCell ⟨gk, (n - 1) * 4 + 3, none⟩ (.int .i64 ep)) (k := gk) (xs' := xs.set (xs.length - 1) { (xs[xs.length - 1]'(by omega)) with died := ep }) hv rfl (by simp [World.setCell]) (fun j hj => Below.heap_setCell _ _ _ j hj) (by rw [hne]; exact h1) (by intro e; have := congrArg List.length e; rw [List.length_set] at this; simp only [List.length_nil] at this; omega)
    exact h2.congr (fun s => (hend s).symm)
  have hc1 : W1.heap[p]? = some (.cells #[.map mo, .int .i64 t.last] 40) := by rw [hW1, Below.heap_setCell _ _ _ p hpg]; exact h.cell
  have ht1 : TurnF (tbfoot p mo g) (tbfoot p mo g) w W1 := by
    rw [hW1]
    exact ⟨rfl, rfl, rfl, by simp [World.setCell], fun k hk h1 => Below.heap_setCell _ _ _ k (fun e => h1 (.inr (.inr ⟨name, _, hv, by rw [e]; rfl⟩))), fun k hk => .inl hk⟩
  have HE : Hid (TAt (W1.setCell ⟨p, 1, none⟩ (.int .i64 ep)) p B (tbfoot p mo g) ⟨endR t.rs name ep, ep⟩ ∧ TurnF (tbfoot p mo g) (tbfoot p mo g) w (W1.setCell ⟨p, 1, none⟩ (.int .i64 ep))) := by
    have ht : TurnF (fun k => k = p) (fun k => k = p) W1 (W1.setCell ⟨p, 1, none⟩ (.int .i64 ep)) := ⟨rfl, rfl, rfl, by simp [World.setCell], fun k hk h1 => Below.heap_setCell _ _ _ k h1, fun k hk => .inl hk⟩
    have ht2 : TurnF (tbfoot p mo g) (tbfoot p mo g) W1 (W1.setCell ⟨p, 1, none⟩ (.int .i64 ep)) := ⟨rfl, rfl, rfl, by simp [World.setCell], fun k hk h1 => Below.heap_setCell _ _ _ k (fun e => h1 (.inl e)), fun k hk => .inl hk⟩
    refine ⟨⟨mo, g, ⟨by rw [setCell_blk hc1]; rfl, h.hp, ?_⟩, rfl⟩, ht1.trans ht2⟩
    refine hm1.stay ht (fun k hk e => ?_)
    subst e
    exact absurd (hm1.ty hk hc1) (by decide)
  have qp1 : W1.cell? ⟨p, 1, none⟩ = some (.int .i64 t.last) := blk_cell hc1 rfl
  have qpf := blk_frozen hc1 1
  have hpl := blk_lt hc1
  have hn1 : ((n : Int) - 1) = ((n - 1 : Nat) : Int) := by omega
  have hn2 : (n : Int) ≤ 900 := by omega
  have hlt : ((n - 1 : Nat) : Int) < (n : Int) := by omega
  have hge : (0 : Int) ≤ ((n - 1 : Nat) : Int) := by omega
  clear h hi hl hnm hm ho hx hx0 hend hrow hv hrv hxl hfz hcc hn hne hd hm1 hc1 ht1 hpg hled
  go_enter Try.func8, Try.ntmps8
  go_upto_region 7 with (first
    | (go_at_call 13; refine HT.out.mono ?_; rintro e w1 ⟨rfl, hw⟩; subst w1)
    | (go_at_call 14; refine HL.out.mono ?_; rintro e w1 ⟨rfl, hw⟩; subst w1))
  rw [← hW1]
  clear hW1 q0 c3 f3 hlk HT HL
  go_wp2_with fail
  go_ret
  exact ⟨rfl, HE.out⟩
theorem trem_any {w : World} {p B : Nat} {F : Nat → Prop} {t : Tb} (name : ByteArray) (ep : Int) (h : TAt w p B F t) (hi : Inv t) (hl : t.rs.length ≤ 900) (hn : name.size ≤ maxLen) :
    Calls Try.prog 8 #[.pointer (some ⟨p, 0, none⟩), .string name, .int .i64 ep] w fun x w' => x = .returned (errV (remC t name ep)) ∧ ∃ F', TAt w' p B F' (remT t name ep) ∧ TurnF F F' w w' := by
  obtain ⟨mo, g, h1, rfl⟩ := h
  cases hm : mayB t.last name ep with
  | false =>
    have e : remC t name ep = 1 := by unfold remC; rw [if_neg (by rw [hm]; simp)]
    have e2 : remT t name ep = t := by unfold remT; rw [e, if_neg (by omega)]
    rw [e, e2, errV_n (by omega)]
    refine (trem_arg name ep h1 hm).mono ?_
    rintro x w' ⟨rfl, rfl⟩
    exact ⟨rfl, _, ⟨mo, g, h1, rfl⟩, turnF_below (Below.refl _ _)⟩
  | true =>
    cases ho : t.rs.any (openP name) with
    | false =>
      have e : remC t name ep = 5 := by unfold remC; rw [if_pos hm, if_neg (by rw [ho]; simp)]
      have e2 : remT t name ep = t := by unfold remT; rw [e, if_neg (by omega)]
      rw [e, e2, errV_n (by omega)]
      refine (trem_none name ep h1 hl hn hm (by rw [leads_open hi, ho])).mono ?_
      rintro x w' ⟨rfl, rfl⟩
      exact ⟨rfl, _, ⟨mo, g, h1, rfl⟩, turnF_below (Below.refl _ _)⟩
    | true =>
      have e : remC t name ep = 0 := by unfold remC; rw [if_pos hm, if_pos ho]
      have e2 : remT t name ep = ⟨endR t.rs name ep, ep⟩ := by unfold remT; rw [e, if_pos rfl]
      rw [e, e2, errV_z]
      refine (trem_good name ep h1 hi hl hn hm ho).mono ?_
      rintro x w' ⟨rfl, k1, k2⟩
      exact ⟨rfl, _, k1, k2⟩
end Go.Proofs.Ythjcmagionaepaa
