/- package table: Add. -/
import Derived.Test.YthjcmagionaepaaFPutT
import Derived.Deep.RegionLaw
import Derived.WalkSpells
namespace Go.Proofs.Ythjcmagionaepaa
open Go.RowKit Kit
set_option linter.unusedVariables false

/-- Just the last row of a name may have no end. -/
theorem leads_open {t : Tb} (h : Inv t) (name : ByteArray) : leadsB (t.rs.filter (ofN name)) = t.rs.any (openP name) := by
  have hmem : ∀ x, x ∈ t.rs.filter (ofN name) ↔ x ∈ t.rs ∧ x.name = name := fun x => by rw [List.mem_filter, ofN_iff]
  have hn : (t.rs.filter (ofN name)).Pairwise fun a b => a.died ≠ 0 := by
    have h3 := h.nxt.filter (ofN name)
    exact h3.imp_of_mem fun {a b} ha hb hab => (hab (((hmem a).1 ha).2.trans ((hmem b).1 hb).2.symm)).1
  obtain ⟨xs, hxs⟩ : ∃ xs, xs = t.rs.filter (ofN name) := ⟨_, rfl⟩
  rw [← hxs] at hmem hn ⊢
  rw [Bool.eq_iff_iff, List.any_eq_true]
  constructor
  · intro hl
    have h0 : 0 < xs.length := by
      cases xs with
      | nil => cases hl
      | cons a r => simp
    rw [leads_at h0, decide_eq_true_eq] at hl
    obtain ⟨k1, k2⟩ := (hmem _).1 (List.getElem_mem (l := xs) (n := xs.length - 1) (by omega))
    exact ⟨_, k1, open_iff.2 ⟨k2, hl⟩⟩
  · rintro ⟨y, hy, hf⟩
    obtain ⟨k1, k2⟩ := open_iff.1 hf
    obtain ⟨j, hj, rfl⟩ := List.getElem_of_mem ((hmem y).2 ⟨hy, k1⟩)
    rw [leads_at (by omega), decide_eq_true_eq]
    rcases Nat.lt_or_ge j (xs.length - 1) with h6 | h6
    · exact absurd k2 (List.pairwise_iff_getElem.1 hn j (xs.length - 1) hj (by omega) h6)
    · have : j = xs.length - 1 := by omega
      subst this
      exact k2
def errN (c : Int) : Value := .iface 42 (.int .i64 c)
theorem errV_n {c : Int} (h : c ≠ 0) : errV c = errN c := if_neg h
theorem errV_z : errV 0 = .nilIface := if_pos rfl
theorem tadd_nil (w : World) (name : ByteArray) (ino ep : Int) : Calls Try.prog 6 #[.pointer none, .string name, .int .i64 ino, .int .i64 ep] w fun x w' => x = .returned (errV 1) ∧ Below w.heap.size w w' := by
  have HT : Hid (Calls Try.prog 13 #[.pointer none, .string name, .int .i64 ep] w fun x w' => x = .returned (.bool false) ∧ w' = w) := ttakes_nil name ep w
  rw [errV_n (by omega)]
  go_enter Try.func6, Try.ntmps6
  go_wp2_with (go_at_call 13; refine HT.out.mono ?_; rintro e w1 ⟨rfl, hw⟩; subst w1)
  go_ret
  exact ⟨rfl, Below.refl _ _⟩
set_option maxRecDepth 4000 in
theorem tadd_arg {w : World} {p B : Nat} {mo : Option Nat} {g : ByteArray → Option Value} {t : Tb} (name : ByteArray) (ino ep : Int) (h : TabAt w p B mo g t) (hn : ¬ (mayB t.last name ep = true ∧ 1 ≤ ino)) :
    Calls Try.prog 6 #[.pointer (some ⟨p, 0, none⟩), .string name, .int .i64 ino, .int .i64 ep] w fun x w' => x = .returned (errN 1) ∧ w' = w := by
  have HT : Hid (Calls Try.prog 13 #[.pointer (some ⟨p, 0, none⟩), .string name, .int .i64 ep] w fun x w' => x = .returned (.bool (mayB t.last name ep)) ∧ w' = w) := ttakes_any h.cell name ep
  cases hm : mayB t.last name ep with
  | false =>
    rw [hm] at HT
    clear hm hn h
    go_enter Try.func6, Try.ntmps6
    go_wp2_with (go_at_call 13; refine HT.out.mono ?_; rintro e w1 ⟨rfl, hw⟩; subst w1)
    go_ret
    exact ⟨rfl, rfl⟩
  | true =>
    have hi : ino < 1 := by
      have : ¬ 1 ≤ ino := fun e => hn ⟨hm, e⟩
      omega
    rw [hm] at HT
    clear hm hn h
    go_enter Try.func6, Try.ntmps6
    go_wp2_with (go_at_call 13; refine HT.out.mono ?_; rintro e w1 ⟨rfl, hw⟩; subst w1)
    go_ret
    exact ⟨rfl, rfl⟩
set_option maxRecDepth 4000 in
theorem tadd_there {w : World} {p B : Nat} {mo : Option Nat} {g : ByteArray → Option Value} {t : Tb} (name : ByteArray) (ino ep : Int) (h : TabAt w p B mo g t) (hl : t.rs.length ≤ 900) (hnm : name.size ≤ maxLen) (hm : mayB t.last name ep = true) (hi : 1 ≤ ino) (ho : leadsB (t.rs.filter (ofN name)) = true) :
    Calls Try.prog 6 #[.pointer (some ⟨p, 0, none⟩), .string name, .int .i64 ino, .int .i64 ep] w fun x w' => x = .returned (errN 6) ∧ w' = w := by
  have HT : Hid (Calls Try.prog 13 #[.pointer (some ⟨p, 0, none⟩), .string name, .int .i64 ep] w fun x w' => x = .returned (.bool true) ∧ w' = w) := by have := ttakes_any h.cell name ep; rw [hm] at this; exact this
  have HL : Hid (Calls Try.prog 14 #[rv g name] w fun x w' => x = .returned (.bool true) ∧ w' = w) := by have := tleads_any (rv g name) _ w (h.rows.rowv name).sees (Nat.le_trans (List.length_filter_le _ _) (by omega)); rw [ho] at this; exact this
  have hlk := h.rows.lookup (Below.refl _ w) hnm
  have q0 : w.cell? ⟨p, 0, none⟩ = some (.map mo) := blk_cell h.cell rfl
  obtain ⟨v, hv⟩ : ∃ v, v = rv g name := ⟨_, rfl⟩
  rw [← hv] at HL hlk
  have hi2 : ¬ ino < 1 := by omega
  clear h hl hnm hm ho hi hv
  go_enter Try.func6, Try.ntmps6
  go_wp2_with (first
    | (go_at_call 13; refine HT.out.mono ?_; rintro e w1 ⟨rfl, hw⟩; subst w1)
    | (go_at_call 14; refine HL.out.mono ?_; rintro e w1 ⟨rfl, hw⟩; subst w1))
  go_ret
  exact ⟨rfl, rfl⟩
set_option maxRecDepth 4000 in
set_option maxHeartbeats 8000000 in
theorem tadd_some {w : World} {p B b : Nat} {g : ByteArray → Option Value} {t : Tb} (name : ByteArray) (ino ep : Int) (h : TabAt w p B (some b) g t) (hl : t.rs.length ≤ 900) (hnm : name.size ≤ 2000) (hm : mayB t.last name ep = true) (hi : 1 ≤ ino) (ho : leadsB (t.rs.filter (ofN name)) = false) :
    Calls Try.prog 6 #[.pointer (some ⟨p, 0, none⟩), .string name, .int .i64 ino, .int .i64 ep] w fun x w' => x = .returned .nilIface ∧ ∃ F', TAt w' p B F' ⟨t.rs ++ [⟨name, ino, ep, 0⟩], ep⟩ ∧ TurnF (tbfoot p (some b) g) F' w w' := by
  have hmx : name.size ≤ maxLen := Nat.le_trans hnm (by unfold maxLen; omega)
  have HT : Hid (Calls Try.prog 13 #[.pointer (some ⟨p, 0, none⟩), .string name, .int .i64 ep] w fun x w' => x = .returned (.bool true) ∧ w' = w) := by have := ttakes_any h.cell name ep; rw [hm] at this; exact this
  have HL : Hid (Calls Try.prog 14 #[rv g name] w fun x w' => x = .returned (.bool false) ∧ w' = w) := by have := tleads_any (rv g name) _ w (h.rows.rowv name).sees (Nat.le_trans (List.length_filter_le _ _) (by omega)); rw [ho] at this; exact this
  have hlk := h.rows.lookup (Below.refl _ w) hmx
  have q0 : w.cell? ⟨p, 0, none⟩ = some (.map (some b)) := blk_cell h.cell rfl
  have HXL : Hid ((t.rs.filter (ofN name)).length + 1 ≤ 901) := by have := List.length_filter_le (ofN name) t.rs; show _ ≤ _; omega
  have HM0 : Hid (w.heap[p]? = some (.cells #[.map (some b), .int .i64 t.last] 40) ∧ MapR w B (some b) g (fun s => t.rs.filter (ofN s)) ∧ TurnF (tbfoot p (some b) g) (tbfoot p (some b) g) w w ∧ B ≤ p ∧ (∀ s, (g s).isSome = true → s ∈ t.rs.map Rw.name)) := by
    refine ⟨h.cell, h.rows, turnF_below (Below.refl _ _), h.hp, fun s hs => ?_⟩
    have := (h.rows.isSome s).1 hs
    obtain ⟨r, hr⟩ := List.exists_mem_of_ne_nil _ this
    obtain ⟨h1, h2⟩ := List.mem_filter.1 hr
    exact List.mem_map.2 ⟨r, h1, ofN_iff.1 h2⟩
  obtain ⟨ρ, hρ⟩ : ∃ ρ : ByteArray → List Rw, ρ = fun s => t.rs.filter (ofN s) := ⟨_, rfl⟩
  have HG : Hid (∀ s, ρ s = t.rs.filter (ofN s)) := fun s => by rw [hρ]
  rw [← hρ] at HM0
  have HXL : Hid ((ρ name).length + 1 ≤ 901) := by rw [HG.out]; exact HXL.out
  have HLT : Hid (t.rs.length ≤ 900) := hl
  have HNM : Hid (name.size ≤ maxLen) := hmx
  have HCL : Hid (Calls Try.prog 15 #[.string name] w fun e w' => e = .returned (.string name) ∧ Below w.heap.size w w') := tsclone_any name w hnm
  obtain ⟨v, hv⟩ : ∃ v, v = rv g name := ⟨_, rfl⟩
  rw [← hv] at HL hlk
  have hi2 : ¬ ino < 1 := by omega
  clear h hl hnm hmx hm ho hi hv hρ
  have hq := Go.run_eql_map_nil (P := Try.prog) w 38 9 34 (some b) Try.underlying38
  go_enter Try.func6, Try.ntmps6
  go_upto_region 7 with (first
    | (go_at_call 13; refine HT.out.mono ?_; rintro e w1 ⟨rfl, hw⟩; subst w1)
    | (go_at_call 14; refine HL.out.mono ?_; rintro e w1 ⟨rfl, hw⟩; subst w1))
  go_upto_region 8 with (go_at_call 15; refine HCL.out.mono ?_; rintro e w1 ⟨rfl, hb1⟩)
  have HB1 : Hid (Below w.heap.size w w1.drew) := hb1.drew
  have HB2 : Hid (Below w.heap.size w ((w1.alloc (.cells #[.string name, .int .i64 ino, .int .i64 ep, .int .i64 0] 48)).drew)) := (bel_tr hb1 (bel_newG _ _)).drew
  have q1 : w1.cell? ⟨p, 0, none⟩ = some (.map (some b)) := blk_cell (blk_below hb1 HM0.out.1) rfl
  have hp1 : p < w1.heap.size := blk_lt (blk_below hb1 HM0.out.1)
  have hl1 := HM0.out.2.1.lookup HB1.out HNM.out
  have hl2 := HM0.out.2.1.lookup HB2.out HNM.out
  obtain ⟨u, hu⟩ : ∃ u, u = rv g name := ⟨_, rfl⟩
  rw [← hu] at hl1 hl2
  have HRU : Hid (RowE rwE ((w1.alloc (.cells #[.string name, .int .i64 ino, .int .i64 ep, .int .i64 0] 48)).drew) B 48 u (ρ name) ∧ SeesE rwE ((w1.alloc (.cells #[.string name, .int .i64 ino, .int .i64 ep, .int .i64 0] 48)).drew) (.slice (some ⟨w1.heap.size, 0, none⟩) 1 1) [(⟨name, ino, ep, 0⟩ : Rw)] ∧ B ≤ (w1.alloc (.cells #[.string name, .int .i64 ino, .int .i64 ep, .int .i64 0] 48)).drew.heap.size ∧ (ρ name).length + [(⟨name, ino, ep, 0⟩ : Rw)].length ≤ maxLen ∧ ((ρ name).length + [(⟨name, ino, ep, 0⟩ : Rw)].length) * 40 ≤ 140737488355328) := by
    refine ⟨by rw [hu]; exact (HM0.out.2.1.below HB2.out).rowv name, seesE_at rwE (x := ⟨name, ino, ep, 0⟩) (MapKept.heap_alloc w1 _).1, (HM0.out.2.1.below HB2.out).low, ?_, ?_⟩ <;> have := HXL.out <;> simp only [List.length_cons, List.length_nil] <;> (try unfold maxLen) <;> omega
  have HPT : Hid (∀ w4 v', RowE rwE w4 B 48 v' (ρ name ++ [(⟨name, ino, ep, 0⟩ : Rw)]) → (w1.alloc (.cells #[.string name, .int .i64 ino, .int .i64 ep, .int .i64 0] 48)).drew.grownBy w4 u.ownBlock → (∀ k, v'.ownBlock = some k → u.ownBlock = some k ∨ (w1.alloc (.cells #[.string name, .int .i64 ino, .int .i64 ep, .int .i64 0] 48)).drew.heap.size ≤ k) → w4.cell? ⟨p, 0, none⟩ = some (.map (some b)) ∧ p < w4.heap.size ∧ ∃ w5, (Instr.mapUpdate 38 (.map (some b)) (.string name) v').run Try.prog w4 = .ok () w5 ∧ Hid (∃ g5, MapR w5 B (some b) g5 (fun s => if s = name then ρ name ++ [(⟨name, ino, ep, 0⟩ : Rw)] else ρ s) ∧ w5.heap[p]? = some (.cells #[.map (some b), .int .i64 t.last] 40) ∧ TurnF (tbfoot p (some b) g) (tbfoot p (some b) g5) w w5)) := fun w4 v' k1 k2 k3 => by
    rw [hu] at k2 k3
    obtain ⟨c1, w5, c2, c3, c4, c5⟩ := add_put HB2.out HM0.out.1 HM0.out.2.1 k2 k1 (by simp) k3 HNM.out _ HM0.out.2.2.2.2 (by rw [List.length_map]; have := HLT.out; unfold maxLen; omega)
    exact ⟨blk_cell c1 rfl, blk_lt c1, w5, c2, _, c3, c4, c5⟩
  clear hb1 hu HCL
  go_region_law (first
    | (refine step_appF (E := rwE) Try.underlying34 infoEn rfl (by rfl) (.tmp 50) (.tmp 56) (by rfl) B u (ρ name) (by rfl) HRU.out.1 (.slice (some ⟨w1.heap.size, 0, none⟩) 1 1) [(⟨name, ino, ep, 0⟩ : Rw)] (by rfl) HRU.out.2.1 HRU.out.2.2.2.1 HRU.out.2.2.2.2 HRU.out.2.2.1 ?_
       intro v4 w4 k1 k2 k3
       obtain ⟨c1, c0, w5, c2, H5⟩ := HPT.out w4 v4 k1 k2 k3
       clear k1 k2 k3))
  all_goals (
    obtain ⟨g5, m1, m2, m3⟩ := H5.out
    have p1 : w5.cell? ⟨p, 1, none⟩ = some (.int .i64 t.last) := blk_cell m2 rfl
    have pf := blk_frozen m2 1
    have pl := blk_lt m2
    have HE : Hid (∃ F', TAt (w5.setCell ⟨p, 1, none⟩ (.int .i64 ep)) p B F' ⟨t.rs ++ [⟨name, ino, ep, 0⟩], ep⟩ ∧ TurnF (tbfoot p (some b) g) F' w (w5.setCell ⟨p, 1, none⟩ (.int .i64 ep))) := by
      have ht : TurnF (fun k => k = p) (fun k => k = p) w5 (w5.setCell ⟨p, 1, none⟩ (.int .i64 ep)) := ⟨rfl, rfl, rfl, by simp [World.setCell], fun k hk h1 => Below.heap_setCell _ _ _ k h1, fun k hk => .inl hk⟩
      have ht2 : TurnF (tbfoot p (some b) g5) (tbfoot p (some b) g5) w5 (w5.setCell ⟨p, 1, none⟩ (.int .i64 ep)) := ⟨rfl, rfl, rfl, by simp [World.setCell], fun k hk h1 => Below.heap_setCell _ _ _ k (fun e => h1 (.inl e)), fun k hk => .inl hk⟩
      refine ⟨_, ⟨some b, g5, ⟨by rw [setCell_blk m2]; rfl, HM0.out.2.2.2.1, ?_⟩, rfl⟩, (HM0.out.2.2.1.trans m3).trans ht2⟩
      refine (m1.stay ht (fun k hk e => ?_)).congr (fun s => ?_)
      · subst e
        exact absurd (m1.ty hk m2) (by decide)
      · simp only [List.filter_append]
        by_cases hs : s = name
        · subst hs
          rw [if_pos rfl, HG.out, List.filter_cons_of_pos (by rw [ofN_iff])]
          rfl
        · rw [if_neg hs, HG.out, List.filter_cons_of_neg (by rw [ofN_iff]; exact fun e => hs e.symm)]
          simp
    clear H5 m1 m2 m3 HPT HRU HM0
    go_wp2_with fail
    go_ret
    exact ⟨rfl, HE.out⟩)
set_option maxRecDepth 4000 in
set_option maxHeartbeats 8000000 in
theorem tadd_new {w : World} {p B : Nat} {g : ByteArray → Option Value} {t : Tb} (name : ByteArray) (ino ep : Int) (h : TabAt w p B none g t) (hl : t.rs.length ≤ 900) (hnm : name.size ≤ 2000) (hm : mayB t.last name ep = true) (hi : 1 ≤ ino) (ho : leadsB (t.rs.filter (ofN name)) = false) :
    Calls Try.prog 6 #[.pointer (some ⟨p, 0, none⟩), .string name, .int .i64 ino, .int .i64 ep] w fun x w' => x = .returned .nilIface ∧ ∃ F', TAt w' p B F' ⟨t.rs ++ [⟨name, ino, ep, 0⟩], ep⟩ ∧ TurnF (tbfoot p none g) F' w w' := by
  have hmx : name.size ≤ maxLen := Nat.le_trans hnm (by unfold maxLen; omega)
  have HT : Hid (Calls Try.prog 13 #[.pointer (some ⟨p, 0, none⟩), .string name, .int .i64 ep] w fun x w' => x = .returned (.bool true) ∧ w' = w) := by have := ttakes_any h.cell name ep; rw [hm] at this; exact this
  have HL : Hid (Calls Try.prog 14 #[rv g name] w fun x w' => x = .returned (.bool false) ∧ w' = w) := by have := tleads_any (rv g name) _ w (h.rows.rowv name).sees (Nat.le_trans (List.length_filter_le _ _) (by omega)); rw [ho] at this; exact this
  have hlk := h.rows.lookup (Below.refl _ w) hmx
  have q0 : w.cell? ⟨p, 0, none⟩ = some (.map none) := blk_cell h.cell rfl
  have HXL : Hid ((t.rs.filter (ofN name)).length + 1 ≤ 901) := by have := List.length_filter_le (ofN name) t.rs; show _ ≤ _; omega
  have hempty : t.rs = [] := by
    cases e : t.rs with
    | nil => rfl
    | cons a r =>
      have hg : g a.name = none := by
        rcases h.rows.map with ⟨_, h1⟩ | ⟨b, h1, _⟩
        · exact h1 _
        · cases h1
      have := h.rows.none a.name hg
      simp only [e] at this
      rw [List.filter_cons_of_pos (by rw [ofN_iff])] at this
      cases this
  have hpl := blk_lt h.cell
  obtain ⟨W, hW⟩ : ∃ z, z = (w.alloc (.map #[] 0)).setCell ⟨p, 0, none⟩ (.map (some w.heap.size)) := ⟨_, rfl⟩
  obtain ⟨b, hb⟩ : ∃ b, b = w.heap.size := ⟨_, rfl⟩
  obtain ⟨g2, hg2⟩ : ∃ g2 : ByteArray → Option Value, g2 = fun _ => none := ⟨_, rfl⟩
  have HM0 : Hid (W.heap[p]? = some (.cells #[.map (some b), .int .i64 t.last] 40) ∧ MapR W B (some b) g2 (fun _ => []) ∧ TurnF (tbfoot p none g) (tbfoot p (some b) g2) w W ∧ B ≤ p ∧ (∀ s, (g2 s).isSome = true → s ∈ t.rs.map Rw.name)) := by
    have hsz : W.heap.size = w.heap.size + 1 := by rw [hW]; simp [World.setCell]
    rw [hW, hb, hg2]
    refine ⟨?_, ?_, ⟨rfl, rfl, rfl, by simp [World.setCell], fun k hk h1 => ?_, fun k hk => ?_⟩, h.hp, fun s hs => by cases hs⟩
    · have := setCell_blk (j := 0) (x := .map (some w.heap.size)) (blk_below (bel_newG w (.map #[] 0)) h.cell)
      rw [this]; rfl
    · have h2 := mapR_made (B := B) w h.rows.low
      have h3 : TurnF (fun k => k = p) (fun k => k = p) (w.alloc (.map #[] 0)) ((w.alloc (.map #[] 0)).setCell ⟨p, 0, none⟩ (.map (some w.heap.size))) :=
        ⟨rfl, rfl, rfl, by simp [World.setCell], fun k hk h1 => Below.heap_setCell _ _ _ k h1, fun k hk => .inl hk⟩
      refine h2.stay h3 (fun k hk e => ?_)
      rcases hk with e1 | ⟨s, v, e1, _⟩
      · cases e1; omega
      · cases e1
    · rw [Below.heap_setCell _ _ _ k (fun e => h1 (.inl e))]
      exact (bel_newG w (.map #[] 0)).block k hk
    · rcases hk with rfl | e1 | ⟨s, v, e1, _⟩
      · exact .inl (.inl rfl)
      · cases e1; exact .inr (Nat.le_refl _)
      · cases e1
  have hmm := @run_makeMap Try.prog
  obtain ⟨ρ, hρ⟩ : ∃ ρ : ByteArray → List Rw, ρ = fun _ => [] := ⟨_, rfl⟩
  have HG : Hid (∀ s, ρ s = t.rs.filter (ofN s)) := fun s => by rw [hρ, hempty]; rfl
  rw [← hρ] at HM0
  have HXL : Hid ((ρ name).length + 1 ≤ 901) := by rw [HG.out]; exact HXL.out
  have qfa : (w.alloc (.map #[] 0)).frozen? ⟨p, 0, none⟩ = false := blk_frozen (blk_below (bel_newG _ _) h.cell) 0
  have qca : (w.alloc (.map #[] 0)).cell? ⟨p, 0, none⟩ = some (.map none) := blk_cell (blk_below (bel_newG _ _) h.cell) rfl
  rw [← hb] at hW hpl
  have HLT : Hid (t.rs.length ≤ 900) := hl
  have HNM : Hid (name.size ≤ maxLen) := hmx
  have HCL : Hid (Calls Try.prog 15 #[.string name] W fun e w' => e = .returned (.string name) ∧ Below W.heap.size W w') := tsclone_any name W hnm
  obtain ⟨v, hv⟩ : ∃ v, v = rv g name := ⟨_, rfl⟩
  rw [← hv] at HL hlk
  have hi2 : ¬ ino < 1 := by omega
  clear h hl hnm hmx hm ho hi hv hempty hg2 hρ
  have hq := Go.run_eql_map_nil (P := Try.prog) w 38 9 34 none Try.underlying38
  go_enter Try.func6, Try.ntmps6
  go_upto_region 6 with (first
    | (go_at_call 13; refine HT.out.mono ?_; rintro e w1 ⟨rfl, hw⟩; subst w1)
    | (go_at_call 14; refine HL.out.mono ?_; rintro e w1 ⟨rfl, hw⟩; subst w1))
  go_upto_region 7 with fail
  rw [← hb, ← hW]
  clear hW hb
  go_upto_region 8 with (go_at_call 15; refine HCL.out.mono ?_; rintro e w1 ⟨rfl, hb1⟩)
  have HB1 : Hid (Below W.heap.size W w1.drew) := hb1.drew
  have HB2 : Hid (Below W.heap.size W ((w1.alloc (.cells #[.string name, .int .i64 ino, .int .i64 ep, .int .i64 0] 48)).drew)) := (bel_tr hb1 (bel_newG _ _)).drew
  have q1 : w1.cell? ⟨p, 0, none⟩ = some (.map (some b)) := blk_cell (blk_below hb1 HM0.out.1) rfl
  have hp1 : p < w1.heap.size := blk_lt (blk_below hb1 HM0.out.1)
  have hl1 := HM0.out.2.1.lookup HB1.out HNM.out
  have hl2 := HM0.out.2.1.lookup HB2.out HNM.out
  obtain ⟨u, hu⟩ : ∃ u, u = rv g2 name := ⟨_, rfl⟩
  rw [← hu] at hl1 hl2
  have HRU : Hid (RowE rwE ((w1.alloc (.cells #[.string name, .int .i64 ino, .int .i64 ep, .int .i64 0] 48)).drew) B 48 u (ρ name) ∧ SeesE rwE ((w1.alloc (.cells #[.string name, .int .i64 ino, .int .i64 ep, .int .i64 0] 48)).drew) (.slice (some ⟨w1.heap.size, 0, none⟩) 1 1) [(⟨name, ino, ep, 0⟩ : Rw)] ∧ B ≤ (w1.alloc (.cells #[.string name, .int .i64 ino, .int .i64 ep, .int .i64 0] 48)).drew.heap.size ∧ (ρ name).length + [(⟨name, ino, ep, 0⟩ : Rw)].length ≤ maxLen ∧ ((ρ name).length + [(⟨name, ino, ep, 0⟩ : Rw)].length) * 40 ≤ 140737488355328) := by
    refine ⟨by rw [hu]; exact (HM0.out.2.1.below HB2.out).rowv name, seesE_at rwE (x := ⟨name, ino, ep, 0⟩) (MapKept.heap_alloc w1 _).1, (HM0.out.2.1.below HB2.out).low, ?_, ?_⟩ <;> have := HXL.out <;> simp only [List.length_cons, List.length_nil] <;> (try unfold maxLen) <;> omega
  have HPT : Hid (∀ w4 v', RowE rwE w4 B 48 v' (ρ name ++ [(⟨name, ino, ep, 0⟩ : Rw)]) → (w1.alloc (.cells #[.string name, .int .i64 ino, .int .i64 ep, .int .i64 0] 48)).drew.grownBy w4 u.ownBlock → (∀ k, v'.ownBlock = some k → u.ownBlock = some k ∨ (w1.alloc (.cells #[.string name, .int .i64 ino, .int .i64 ep, .int .i64 0] 48)).drew.heap.size ≤ k) → w4.cell? ⟨p, 0, none⟩ = some (.map (some b)) ∧ p < w4.heap.size ∧ ∃ w5, (Instr.mapUpdate 38 (.map (some b)) (.string name) v').run Try.prog w4 = .ok () w5 ∧ Hid (∃ g5, MapR w5 B (some b) g5 (fun s => if s = name then ρ name ++ [(⟨name, ino, ep, 0⟩ : Rw)] else ρ s) ∧ w5.heap[p]? = some (.cells #[.map (some b), .int .i64 t.last] 40) ∧ TurnF (tbfoot p (some b) g2) (tbfoot p (some b) g5) W w5)) := fun w4 v' k1 k2 k3 => by
    rw [hu] at k2 k3
    obtain ⟨c1, w5, c2, c3, c4, c5⟩ := add_put HB2.out HM0.out.1 HM0.out.2.1 k2 k1 (by simp) k3 HNM.out _ HM0.out.2.2.2.2 (by rw [List.length_map]; have := HLT.out; unfold maxLen; omega)
    exact ⟨blk_cell c1 rfl, blk_lt c1, w5, c2, _, c3, c4, c5⟩
  clear hb1 hu HCL
  go_region_law (first
    | (refine step_appF (E := rwE) Try.underlying34 infoEn rfl (by rfl) (.tmp 50) (.tmp 56) (by rfl) B u (ρ name) (by rfl) HRU.out.1 (.slice (some ⟨w1.heap.size, 0, none⟩) 1 1) [(⟨name, ino, ep, 0⟩ : Rw)] (by rfl) HRU.out.2.1 HRU.out.2.2.2.1 HRU.out.2.2.2.2 HRU.out.2.2.1 ?_
       intro v4 w4 k1 k2 k3
       obtain ⟨c1, c0, w5, c2, H5⟩ := HPT.out w4 v4 k1 k2 k3
       clear k1 k2 k3))
  all_goals (
    obtain ⟨g5, m1, m2, m3⟩ := H5.out
    have p1 : w5.cell? ⟨p, 1, none⟩ = some (.int .i64 t.last) := blk_cell m2 rfl
    have pf := blk_frozen m2 1
    have pl := blk_lt m2
    have HE : Hid (∃ F', TAt (w5.setCell ⟨p, 1, none⟩ (.int .i64 ep)) p B F' ⟨t.rs ++ [⟨name, ino, ep, 0⟩], ep⟩ ∧ TurnF (tbfoot p none g) F' w (w5.setCell ⟨p, 1, none⟩ (.int .i64 ep))) := by
      have ht : TurnF (fun k => k = p) (fun k => k = p) w5 (w5.setCell ⟨p, 1, none⟩ (.int .i64 ep)) := ⟨rfl, rfl, rfl, by simp [World.setCell], fun k hk h1 => Below.heap_setCell _ _ _ k h1, fun k hk => .inl hk⟩
      have ht2 : TurnF (tbfoot p (some b) g5) (tbfoot p (some b) g5) w5 (w5.setCell ⟨p, 1, none⟩ (.int .i64 ep)) := ⟨rfl, rfl, rfl, by simp [World.setCell], fun k hk h1 => Below.heap_setCell _ _ _ k (fun e => h1 (.inl e)), fun k hk => .inl hk⟩
      refine ⟨_, ⟨some b, g5, ⟨by rw [setCell_blk m2]; rfl, HM0.out.2.2.2.1, ?_⟩, rfl⟩, (HM0.out.2.2.1.trans m3).trans ht2⟩
      refine (m1.stay ht (fun k hk e => ?_)).congr (fun s => ?_)
      · subst e
        exact absurd (m1.ty hk m2) (by decide)
      · simp only [List.filter_append]
        by_cases hs : s = name
        · subst hs
          rw [if_pos rfl, HG.out, List.filter_cons_of_pos (by rw [ofN_iff])]
          rfl
        · rw [if_neg hs, HG.out, List.filter_cons_of_neg (by rw [ofN_iff]; exact fun e => hs e.symm)]
          simp
    clear H5 m1 m2 m3 HPT HRU HM0
    go_wp2_with fail
    go_ret
    exact ⟨rfl, HE.out⟩)
theorem tadd_any {w : World} {p B : Nat} {F : Nat → Prop} {t : Tb} (name : ByteArray) (ino ep : Int) (h : TAt w p B F t) (hi : Inv t) (hl : t.rs.length ≤ 900) (hn : name.size ≤ 2000) :
    Calls Try.prog 6 #[.pointer (some ⟨p, 0, none⟩), .string name, .int .i64 ino, .int .i64 ep] w fun x w' => x = .returned (errV (addC t name ino ep)) ∧ ∃ F', TAt w' p B F' (addT t name ino ep) ∧ TurnF F F' w w' := by
  obtain ⟨mo, g, h1, rfl⟩ := h
  by_cases hm : mayB t.last name ep = true ∧ 1 ≤ ino
  · cases ho : t.rs.any (openP name) with
    | true =>
      have e : addC t name ino ep = 6 := by unfold addC; rw [if_pos hm, if_pos ho]
      have e2 : addT t name ino ep = t := by unfold addT; rw [e, if_neg (by omega)]
      rw [e, e2, errV_n (by omega)]
      refine (tadd_there name ino ep h1 hl (Nat.le_trans hn (by unfold maxLen; omega)) hm.1 hm.2 (by rw [leads_open hi, ho])).mono ?_
      rintro x w' ⟨rfl, rfl⟩
      exact ⟨rfl, _, ⟨mo, g, h1, rfl⟩, turnF_below (Below.refl _ _)⟩
    | false =>
      have e : addC t name ino ep = 0 := by unfold addC; rw [if_pos hm, if_neg (by rw [ho]; simp)]
      have e2 : addT t name ino ep = ⟨t.rs ++ [⟨name, ino, ep, 0⟩], ep⟩ := by unfold addT; rw [e, if_pos rfl]
      rw [e, e2, errV_z]
      cases mo with
      | none => exact tadd_new name ino ep h1 hl hn hm.1 hm.2 (by rw [leads_open hi, ho])
      | some b => exact tadd_some name ino ep h1 hl hn hm.1 hm.2 (by rw [leads_open hi, ho])
  · have e : addC t name ino ep = 1 := by unfold addC; rw [if_neg hm]
    have e2 : addT t name ino ep = t := by unfold addT; rw [e, if_neg (by omega)]
    rw [e, e2, errV_n (by omega)]
    refine (tadd_arg name ino ep h1 hm).mono ?_
    rintro x w' ⟨rfl, rfl⟩
    exact ⟨rfl, _, ⟨mo, g, h1, rfl⟩, turnF_below (Below.refl _ _)⟩
end Go.Proofs.Ythjcmagionaepaa
