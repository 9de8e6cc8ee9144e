/- The document's table: Add, Remove. -/
import Derived.Test.YthjcmagionaepaaGreatRTab
import Derived.Test.YthjcmagionaepaaGreatGKit
namespace Go.Proofs.YthjcmagionaepaaGreat
open Go.RowKit Kit
set_option linter.unusedVariables false

theorem infoRw : (Tryz.prog.info? 72).map (fun i => (i.zero, i.size, i.bytes)) = some (some (.agg #[.string ⟨#[]⟩, .int .i64 0, .int .i64 0, .int .i64 0]), 4, 40) := by kernel_rfl
set_option maxRecDepth 4000 in
theorem radd_arg (q B : Nat) (sv : Value) (last : Int) (rs : List Rw) (name : ByteArray) (ino ep : Int) (w : World) (h : RTab w q B sv last rs) (hn : ¬ (mayB last name ep = true ∧ 1 ≤ ino)) :
    Calls Tryz.prog 27 #[.pointer (some ⟨q, 0, none⟩), .string name, .int .i64 ino, .int .i64 ep] w fun x w' => x = .returned (.int .i64 1) ∧ w' = w := by
  have HMY : Hid (Calls Tryz.prog 44 #[.pointer (some ⟨q, 0, none⟩), .string name, .int .i64 ep] w fun x w' => x = .returned (.bool (mayB last name ep)) ∧ w' = w) := rmay_any q B sv last rs name ep w h
  clear h
  cases hm : mayB last name ep with
  | false =>
    rw [hm] at HMY
    clear hn hm
    go_enter Tryz.func27, Tryz.ntmps27
    go_wp2_with (go_at_call 44; refine HMY.out.mono ?_; rintro r w9 ⟨rfl, hw9⟩; subst w9)
    go_ret
    exact ⟨rfl, rfl⟩
  | true =>
    rw [hm] at HMY
    have hi : ino < 1 := by
      by_cases c : 1 ≤ ino
      · exact absurd ⟨hm, c⟩ hn
      · omega
    clear hn hm
    go_enter Tryz.func27, Tryz.ntmps27
    go_wp2_with (go_at_call 44; refine HMY.out.mono ?_; rintro r w9 ⟨rfl, hw9⟩; subst w9)
    go_ret
    exact ⟨rfl, rfl⟩
set_option maxRecDepth 4000 in
theorem radd_there (q B : Nat) (sv : Value) (last : Int) (rs : List Rw) (name : ByteArray) (ino ep : Int) (w : World) (h : RTab w q B sv last rs) (hl : rs.length ≤ 900) (hm : mayB last name ep = true) (hi : 1 ≤ ino) (ho : rs.any (openP name) = true) :
    Calls Tryz.prog 27 #[.pointer (some ⟨q, 0, none⟩), .string name, .int .i64 ino, .int .i64 ep] w fun x w' => x = .returned (.int .i64 6) ∧ w' = w := by
  have HMY : Hid (Calls Tryz.prog 44 #[.pointer (some ⟨q, 0, none⟩), .string name, .int .i64 ep] w fun x w' => x = .returned (.bool true) ∧ w' = w) := by have := rmay_any q B sv last rs name ep w h; rw [hm] at this; exact this
  have HOP : Hid (Calls Tryz.prog 45 #[.pointer (some ⟨q, 0, none⟩), .string name] w fun x w' => x = .returned (.int .i64 ((seatP (openP name) rs : Nat) : Int)) ∧ w' = w) := by have := ropen_any q B sv last rs name w h (by omega); rw [open_yes ho] at this; exact this
  obtain ⟨k, hk⟩ : ∃ k, k = seatP (openP name) rs := ⟨_, rfl⟩
  rw [← hk] at HOP
  have hk0 : (0 : Int) ≤ (k : Int) := by omega
  clear h hl hm ho hk
  go_enter Tryz.func27, Tryz.ntmps27
  go_wp2_with (first | (go_at_call 44; refine HMY.out.mono ?_; rintro r w9 ⟨rfl, hw9⟩; subst w9) | (go_at_call 45; refine HOP.out.mono ?_; rintro r w9 ⟨rfl, hw9⟩; subst w9))
  go_ret
  exact ⟨rfl, rfl⟩
set_option maxRecDepth 4000 in
set_option maxHeartbeats 8000000 in
theorem radd_good (q B : Nat) (sv : Value) (last : Int) (rs : List Rw) (name : ByteArray) (ino ep : Int) (w : World) (h : RTab w q B sv last rs) (hl : rs.length ≤ 900) (hm : mayB last name ep = true) (hi : 1 ≤ ino) (ho : rs.any (openP name) = false) :
    Calls Tryz.prog 27 #[.pointer (some ⟨q, 0, none⟩), .string name, .int .i64 ino, .int .i64 ep] w fun x w' => x = .returned (.int .i64 0) ∧ ∃ sv', RTab w' q B sv' ep (rs ++ [⟨name, ino, ep, 0⟩]) ∧ TurnF (tfoot q sv) (tfoot q sv') w w' := by
  have HMY : Hid (Calls Tryz.prog 44 #[.pointer (some ⟨q, 0, none⟩), .string name, .int .i64 ep] w fun x w' => x = .returned (.bool true) ∧ w' = w) := by have := rmay_any q B sv last rs name ep w h; rw [hm] at this; exact this
  have HOP : Hid (Calls Tryz.prog 45 #[.pointer (some ⟨q, 0, none⟩), .string name] w fun x w' => x = .returned (.int .i64 (-1)) ∧ w' = w) := by have := ropen_any q B sv last rs name w h (by omega); rw [open_no ho] at this; exact this
  have HL : Hid (rs.length + [(⟨name, ino, ep, 0⟩ : Rw)].length ≤ maxLen ∧ (rs.length + [(⟨name, ino, ep, 0⟩ : Rw)].length) * 40 ≤ 140737488355328) := by
    refine ⟨?_, ?_⟩ <;> simp only [List.length_cons, List.length_nil] <;> (try unfold maxLen) <;> omega
  obtain ⟨ao, cap, hsv⟩ := h.row.sees.form
  obtain ⟨n, hn⟩ : ∃ n, n = rs.length := ⟨_, rfl⟩
  rw [← hn] at hsv
  clear hn
  subst hsv
  have H0 : Hid (RTab w q B (.slice ao n cap) last rs) := h
  have q0 : w.cell? ⟨q, 0, none⟩ = some (.slice ao n cap) := blk_cell h.cell rfl
  have hql : q < w.heap.size := blk_lt h.cell
  clear h hl hm ho
  go_enter Tryz.func27, Tryz.ntmps27
  go_upto_region 5 with (first | (go_at_call 44; refine HMY.out.mono ?_; rintro r w9 ⟨rfl, hw9⟩; subst w9) | (go_at_call 45; refine HOP.out.mono ?_; rintro r w9 ⟨rfl, hw9⟩; subst w9))
  clear HMY HOP
  have HA : Hid (Below w.heap.size w (w.alloc (.cells #[.string name, .int .i64 ino, .int .i64 ep, .int .i64 0] 72)) ∧ RTab (w.alloc (.cells #[.string name, .int .i64 ino, .int .i64 ep, .int .i64 0] 72)) q B (.slice ao n cap) last rs ∧ SeesE rwE (w.alloc (.cells #[.string name, .int .i64 ino, .int .i64 ep, .int .i64 0] 72)) (.slice (some ⟨w.heap.size, 0, none⟩) 1 1) [(⟨name, ino, ep, 0⟩ : Rw)]) := ⟨bel_newG _ _, H0.out.below (bel_newG _ _), seesE_at rwE (x := ⟨name, ino, ep, 0⟩) (MapKept.heap_alloc w _).1⟩
  go_upto_region 6 with (at_builtin; refine wpList_appF (E := rwE) Tryz.underlying28 infoRw rfl rfl _ _ rfl B (.slice ao n cap) rs rfl HA.out.2.1.row (.slice (some ⟨w.heap.size, 0, none⟩) 1 1) [(⟨name, ino, ep, 0⟩ : Rw)] rfl HA.out.2.2 HL.out.1 HL.out.2 HA.out.2.1.low ?_; intro sv9 w1 k1 k2 k3; obtain ⟨a2, c2, hvs⟩ := k1.sees.form; obtain ⟨n2, hn2⟩ : ∃ z, z = (rs ++ [(⟨name, ino, ep, 0⟩ : Rw)]).length := ⟨_, rfl⟩; rw [← hn2] at hvs; clear hn2; subst hvs; have H1 : Hid (RTab (w1.setCell ⟨q, 0, none⟩ (.slice a2 n2 c2)) q B (.slice a2 n2 c2) last (rs ++ [(⟨name, ino, ep, 0⟩ : Rw)]) ∧ TurnF (tfoot q (.slice ao n cap)) (tfoot q (.slice a2 n2 c2)) w (w1.setCell ⟨q, 0, none⟩ (.slice a2 n2 c2))) := (by obtain ⟨s1, s2⟩ := rtab_row HA.out.2.1 k2 k1 k3; exact ⟨s1, (turnF_below HA.out.1).trans s2⟩); have hq1 : w1.heap[q]? = some (.cells #[.slice ao n cap, .int .i64 last] 30) := (by rw [k2.block q (blk_lt HA.out.2.1.cell) (fun e => HA.out.2.1.off e.symm)]; exact HA.out.2.1.cell); have p0 : w1.cell? ⟨q, 0, none⟩ = some (.slice ao n cap) := blk_cell hq1 rfl; have p1 := blk_frozen hq1 0; have p2 : q < w1.heap.size := blk_lt hq1; clear k1 k2 k3 hq1)
  obtain ⟨W1, hW1⟩ : ∃ z, z = w1.setCell ⟨q, 0, none⟩ (.slice a2 n2 c2) := ⟨_, rfl⟩
  rw [← hW1] at H1 ⊢
  clear hW1 p0 p1 p2 q0 hql HA
  have q1 : W1.cell? ⟨q, 1, none⟩ = some (.int .i64 last) := blk_cell H1.out.1.cell rfl
  have qf := blk_frozen H1.out.1.cell 1
  have hql : q < W1.heap.size := blk_lt H1.out.1.cell
  have HE := rtab_last (l2 := ep) H1.out.1
  have HE : Hid (RTab (W1.setCell ⟨q, 1, none⟩ (.int .i64 ep)) q B (.slice a2 n2 c2) ep (rs ++ [(⟨name, ino, ep, 0⟩ : Rw)]) ∧ TurnF (tfoot q (.slice ao n cap)) (tfoot q (.slice a2 n2 c2)) w (W1.setCell ⟨q, 1, none⟩ (.int .i64 ep))) := ⟨HE.1, H1.out.2.trans HE.2⟩
  go_wp2_with fail
  go_ret
  exact ⟨rfl, _, HE.out⟩
set_option maxRecDepth 4000 in
theorem rremove_arg (q B : Nat) (sv : Value) (last : Int) (rs : List Rw) (name : ByteArray) (ep : Int) (w : World) (h : RTab w q B sv last rs) (hm : mayB last name ep = false) :
    Calls Tryz.prog 28 #[.pointer (some ⟨q, 0, none⟩), .string name, .int .i64 ep] w fun x w' => x = .returned (.int .i64 1) ∧ w' = w := by
  have HMY : Hid (Calls Tryz.prog 44 #[.pointer (some ⟨q, 0, none⟩), .string name, .int .i64 ep] w fun x w' => x = .returned (.bool false) ∧ w' = w) := by have := rmay_any q B sv last rs name ep w h; rw [hm] at this; exact this
  clear h hm
  go_enter Tryz.func28, Tryz.ntmps28
  go_wp2_with (go_at_call 44; refine HMY.out.mono ?_; rintro r w9 ⟨rfl, hw9⟩; subst w9)
  go_ret
  exact ⟨rfl, rfl⟩
set_option maxRecDepth 4000 in
theorem rremove_none (q B : Nat) (sv : Value) (last : Int) (rs : List Rw) (name : ByteArray) (ep : Int) (w : World) (h : RTab w q B sv last rs) (hl : rs.length ≤ 900) (hm : mayB last name ep = true) (ho : rs.any (openP name) = false) :
    Calls Tryz.prog 28 #[.pointer (some ⟨q, 0, none⟩), .string name, .int .i64 ep] w fun x w' => x = .returned (.int .i64 5) ∧ w' = w := by
  have HMY : Hid (Calls Tryz.prog 44 #[.pointer (some ⟨q, 0, none⟩), .string name, .int .i64 ep] w fun x w' => x = .returned (.bool true) ∧ w' = w) := by have := rmay_any q B sv last rs name ep w h; rw [hm] at this; exact this
  have HOP : Hid (Calls Tryz.prog 45 #[.pointer (some ⟨q, 0, none⟩), .string name] w fun x w' => x = .returned (.int .i64 (-1)) ∧ w' = w) := by have := ropen_any q B sv last rs name w h (by omega); rw [open_no ho] at this; exact this
  clear h hl hm ho
  go_enter Tryz.func28, Tryz.ntmps28
  go_wp2_with (first | (go_at_call 44; refine HMY.out.mono ?_; rintro r w9 ⟨rfl, hw9⟩; subst w9) | (go_at_call 45; refine HOP.out.mono ?_; rintro r w9 ⟨rfl, hw9⟩; subst w9))
  go_ret
  exact ⟨rfl, rfl⟩
/-- The document's table, one of its rows given an end. -/
theorem rtab_end {w : World} {q B g n cap i : Nat} {last ep : Int} {rs : List Rw} (h : RTab w q B (.slice (some ⟨g, 0, none⟩) n cap) last rs) (hi : i < rs.length) :
    RTab (w.setCell ⟨g, i * 4 + 3, none⟩ (.int .i64 ep)) q B (.slice (some ⟨g, 0, none⟩) n cap) last (rs.set i { rs[i] with died := ep }) ∧ TurnF (tfoot q (.slice (some ⟨g, 0, none⟩) n cap)) (tfoot q (.slice (some ⟨g, 0, none⟩) n cap)) w (w.setCell ⟨g, i * 4 + 3, none⟩ (.int .i64 ep)) := by
  have hqg : q ≠ g := fun e => h.off (by rw [e]; rfl)
  have hs : (w.setCell ⟨g, i * 4 + 3, none⟩ (.int .i64 ep)).heap.size = w.heap.size := by simp [World.setCell]
  refine ⟨⟨by rw [Below.heap_setCell _ _ _ q hqg]; exact h.cell, rowE_put h.row i hi 3 (by decide) _ _ rfl, by rw [hs]; exact h.low, h.hq⟩, rfl, rfl, rfl, by rw [hs]; exact Nat.le_refl _, fun k hk h1 => ?_, fun k hk => .inl hk⟩
  exact Below.heap_setCell _ _ _ k (fun e => h1 (.inr (by rw [e]; rfl)))
set_option maxRecDepth 4000 in
set_option maxHeartbeats 8000000 in
theorem rremove_good (q B : Nat) (sv : Value) (last : Int) (rs : List Rw) (name : ByteArray) (ep : Int) (w : World) (h : RTab w q B sv last rs) (hl : rs.length ≤ 900) (hm : mayB last name ep = true) (ho : rs.any (openP name) = true) :
    Calls Tryz.prog 28 #[.pointer (some ⟨q, 0, none⟩), .string name, .int .i64 ep] w fun x w' => x = .returned (.int .i64 0) ∧ RTab w' q B sv ep (endR rs name ep) ∧ TurnF (tfoot q sv) (tfoot q sv) w w' := by
  have HMY : Hid (Calls Tryz.prog 44 #[.pointer (some ⟨q, 0, none⟩), .string name, .int .i64 ep] w fun x w' => x = .returned (.bool true) ∧ w' = w) := by have := rmay_any q B sv last rs name ep w h; rw [hm] at this; exact this
  have HOP : Hid (Calls Tryz.prog 45 #[.pointer (some ⟨q, 0, none⟩), .string name] w fun x w' => x = .returned (.int .i64 ((seatP (openP name) rs : Nat) : Int)) ∧ w' = w) := by have := ropen_any q B sv last rs name w h (by omega); rw [open_yes ho] at this; exact this
  have hsl := seatP_any.1 ho
  have HEN : Hid (∀ h : seatP (openP name) rs < rs.length, rs.set (seatP (openP name) rs) { rs[seatP (openP name) rs] with died := ep } = endR rs name ep) := fun h => by unfold endR; rw [dif_pos h]
  obtain ⟨L, hL⟩ : ∃ L, L = endR rs name ep := ⟨_, rfl⟩
  rw [← hL] at HEN ⊢
  clear hL
  obtain ⟨k, hk⟩ : ∃ k, k = seatP (openP name) rs := ⟨_, rfl⟩
  simp only [← hk] at HOP HEN hsl
  have HEN2 : Hid (∀ h : k < rs.length, rs.set k { rs[k] with died := ep } = L) := fun h => HEN.out h
  clear HEN
  obtain ⟨g, cap, hsv, _, _, hfz, hcc⟩ := rowE_form h.row (by omega)
  obtain ⟨n, hn⟩ : ∃ n, n = rs.length := ⟨_, rfl⟩
  rw [← hn] at hsv
  subst hsv
  have H0 : Hid (RTab w q B (.slice (some ⟨g, 0, none⟩) n cap) last rs ∧ k < rs.length) := ⟨h, hsl⟩
  have q0 : w.cell? ⟨q, 0, none⟩ = some (.slice (some ⟨g, 0, none⟩) n cap) := blk_cell h.cell rfl
  have hk0 : (0 : Int) ≤ (k : Int) := by omega
  have hkn : (k : Int) < (n : Int) := by omega
  have c3 : w.cell? ⟨g, k * 4 + 3, none⟩ = some (.int .i64 rs[k].died) := hcc k hsl 3 _ rfl
  obtain ⟨dd, hdd⟩ : ∃ z, z = rs[k].died := ⟨_, rfl⟩
  rw [← hdd] at c3
  have f3 := hfz (k * 4 + 3)
  clear h hl hm ho hn hk hsl hcc hdd hfz
  go_enter Tryz.func28, Tryz.ntmps28
  go_upto_region 7 with (first | (go_at_call 44; refine HMY.out.mono ?_; rintro r w9 ⟨rfl, hw9⟩; subst w9) | (go_at_call 45; refine HOP.out.mono ?_; rintro r w9 ⟨rfl, hw9⟩; subst w9))
  clear HMY HOP
  have H1 : Hid (RTab (w.setCell ⟨g, k * 4 + 3, none⟩ (.int .i64 ep)) q B (.slice (some ⟨g, 0, none⟩) n cap) last L ∧ TurnF (tfoot q (.slice (some ⟨g, 0, none⟩) n cap)) (tfoot q (.slice (some ⟨g, 0, none⟩) n cap)) w (w.setCell ⟨g, k * 4 + 3, none⟩ (.int .i64 ep))) := by
    have := rtab_end (ep := ep) H0.out.1 H0.out.2
    rw [HEN2.out H0.out.2] at this
    exact this
  obtain ⟨W1, hW1⟩ : ∃ z, z = w.setCell ⟨g, k * 4 + 3, none⟩ (.int .i64 ep) := ⟨_, rfl⟩
  rw [← hW1] at H1 ⊢
  clear hW1 q0 c3 f3
  have q1 : W1.cell? ⟨q, 1, none⟩ = some (.int .i64 last) := blk_cell H1.out.1.cell rfl
  have qf := blk_frozen H1.out.1.cell 1
  have hql : q < W1.heap.size := blk_lt H1.out.1.cell
  have HE := rtab_last (l2 := ep) H1.out.1
  have HE : Hid (RTab (W1.setCell ⟨q, 1, none⟩ (.int .i64 ep)) q B (.slice (some ⟨g, 0, none⟩) n cap) ep L ∧ TurnF (tfoot q (.slice (some ⟨g, 0, none⟩) n cap)) (tfoot q (.slice (some ⟨g, 0, none⟩) n cap)) w (W1.setCell ⟨q, 1, none⟩ (.int .i64 ep))) := ⟨HE.1, H1.out.2.trans HE.2⟩
  go_wp2_with fail
  go_ret
  exact ⟨rfl, HE.out⟩
end Go.Proofs.YthjcmagionaepaaGreat
