/- The document's table (dolmenref9.Table): how it lies; may, open, Find. -/
import Derived.Test.YthjcmagionaepaaGreatMTab
import Derived.Test.YthjcmagionaepaaGreatRHold
namespace Go.Proofs.YthjcmagionaepaaGreat
open Go.RowKit Kit
set_option linter.unusedVariables false

structure RTab (w : World) (q B : Nat) (sv : Value) (last : Int) (rs : List Rw) : Prop where
  cell : w.heap[q]? = some (.cells #[sv, .int .i64 last] 30)
  row : RowE rwE w B 72 sv rs
  low : B ≤ w.heap.size
  hq : B ≤ q
def tfoot (q : Nat) (sv : Value) (k : Nat) : Prop := k = q ∨ sv.ownBlock = some k
theorem RTab.below {w w' : World} {q B : Nat} {sv : Value} {last : Int} {rs : List Rw} (h : RTab w q B sv last rs) (hb : Below w.heap.size w w') : RTab w' q B sv last rs := ⟨blk_below hb h.cell, h.row.below hb, Nat.le_trans h.low hb.size, h.hq⟩
theorem RTab.foot {w : World} {q B : Nat} {sv : Value} {last : Int} {rs : List Rw} (h : RTab w q B sv last rs) : ∀ k, tfoot q sv k → B ≤ k := by
  intro k hk
  rcases hk with rfl | hk
  · exact h.hq
  · exact h.row.block k hk
theorem RTab.obj {w : World} {q B : Nat} {sv : Value} {last : Int} {rs : List Rw} (h : RTab w q B sv last rs) : ∀ k, tfoot q sv k → ∃ cs t, w.heap[k]? = some (.cells cs t) ∧ (t = 30 ∨ t = 72) := by
  intro k hk
  rcases hk with rfl | hk
  · exact ⟨_, _, h.cell, .inl rfl⟩
  · obtain ⟨cur, hc⟩ := rowE_obj h.row hk
    exact ⟨_, _, hc, .inr rfl⟩
theorem RTab.off {w : World} {q B : Nat} {sv : Value} {last : Int} {rs : List Rw} (h : RTab w q B sv last rs) : sv.ownBlock ≠ some q := by
  intro e
  obtain ⟨c, hc⟩ := rowE_obj h.row e
  exact obj_ne hc h.cell (by decide) rfl
theorem RTab.stay {w w' : World} {q B : Nat} {sv : Value} {last : Int} {rs : List Rw} {F F' : Nat → Prop} (h : RTab w q B sv last rs) (t : TurnF F F' w w') (hF : ∀ k, tfoot q sv k → ¬ F k) : RTab w' q B sv last rs :=
  ⟨t.kept h.cell (hF q (.inl rfl)), rowE_stay h.row (fun k hk => by
    obtain ⟨cs, t2, hc, _⟩ := h.obj k (.inr hk)
    exact t.block k (blk_lt hc) (hF k (.inr hk))), Nat.le_trans h.low t.size, h.hq⟩
/-- A new row is stored; another last epoch. -/
theorem rtab_row {w w1 : World} {q B : Nat} {sv sv' : Value} {last : Int} {rs rs' : List Rw} (h0 : RTab w q B sv last rs) (hg : w.grownBy w1 sv.ownBlock) (hr : RowE rwE w1 B 72 sv' rs') (hf : ∀ k, sv'.ownBlock = some k → sv.ownBlock = some k ∨ w.heap.size ≤ k) :
    RTab (w1.setCell ⟨q, 0, none⟩ sv') q B sv' last rs' ∧ TurnF (tfoot q sv) (tfoot q sv') w (w1.setCell ⟨q, 0, none⟩ sv') := by
  have hq := blk_lt h0.cell
  have hc : w1.heap[q]? = some (.cells #[sv, .int .i64 last] 30) := by rw [hg.block q hq (fun e => h0.off e.symm)]; exact h0.cell
  have ho : sv'.ownBlock ≠ some q := fun e => (hf q e).elim h0.off (fun h => by omega)
  have hs : (w1.setCell ⟨q, 0, none⟩ sv').heap.size = w1.heap.size := by simp [World.setCell]
  refine ⟨⟨?_, rowE_stay hr (fun k hk => Below.heap_setCell _ _ _ k (by show k ≠ q; intro e; exact ho (by rw [hk, e]))), by rw [hs]; exact Nat.le_trans h0.low hg.size, h0.hq⟩, hg.os, hg.tape, hg.output, by rw [hs]; exact hg.size, fun k hk h1 => ?_, fun k hk => ?_⟩
  · rw [setCell_blk hc]; rfl
  · rw [Below.heap_setCell _ _ _ k (fun e => h1 (.inl e))]
    exact hg.block k hk (fun e => h1 (.inr e.symm))
  · rcases hk with rfl | hk
    · exact .inl (.inl rfl)
    · exact (hf k hk).imp .inr id
theorem rtab_last {w : World} {q B : Nat} {sv : Value} {last l2 : Int} {rs : List Rw} (h0 : RTab w q B sv last rs) : RTab (w.setCell ⟨q, 1, none⟩ (.int .i64 l2)) q B sv l2 rs ∧ TurnF (tfoot q sv) (tfoot q sv) w (w.setCell ⟨q, 1, none⟩ (.int .i64 l2)) := by
  have hs : (w.setCell ⟨q, 1, none⟩ (.int .i64 l2)).heap.size = w.heap.size := by simp [World.setCell]
  refine ⟨⟨?_, rowE_stay h0.row (fun k hk => Below.heap_setCell _ _ _ k (by show k ≠ q; intro e; exact h0.off (by rw [hk, e]))), by rw [hs]; exact h0.low, h0.hq⟩, rfl, rfl, rfl, by rw [hs]; exact Nat.le_refl _, fun k hk h1 => Below.heap_setCell _ _ _ k (fun e => h1 (.inl e)), fun k hk => .inl hk⟩
  rw [setCell_blk h0.cell]; rfl
set_option maxRecDepth 4000 in
theorem rmay_any (q B : Nat) (sv : Value) (last : Int) (rs : List Rw) (name : ByteArray) (e : Int) (w : World) (h : RTab w q B sv last rs) :
    Calls Tryz.prog 44 #[.pointer (some ⟨q, 0, none⟩), .string name, .int .i64 e] w fun x w' => x = .returned (.bool (mayB last name e)) ∧ w' = w := by
  have q1 : w.cell? ⟨q, 1, none⟩ = some (.int .i64 last) := blk_cell h.cell rfl
  have HE : Hid (Calls Tryz.prog 61 #[.int .i64 e] w fun r w' => r = .returned (.bool (epochB e)) ∧ w' = w) := repoch_any e w
  clear h
  by_cases hn : name = ⟨#[]⟩
  · subst hn
    have HV : Hid (mayB last ⟨#[]⟩ e = false) := by show _ = _; unfold mayB; simp
    go_enter Tryz.func44, Tryz.ntmps44
    go_wp2
    go_ret
    exact ⟨by rw [HV.out]; rfl, rfl⟩
  · have hnl := not_empty hn
    have hnb : (name.toList == []) = false := by simpa using hnl
    cases he : epochB e with
    | false =>
      rw [he] at HE
      have HV : Hid (mayB last name e = false) := by show _ = _; unfold mayB; simp [he]
      go_enter Tryz.func44, Tryz.ntmps44
      go_wp2_with (go_at_call 61; refine HE.out.mono ?_; rintro r w9 ⟨rfl, hw9⟩; subst w9)
      go_ret
      exact ⟨by rw [HV.out]; rfl, rfl⟩
    | true =>
      rw [he] at HE
      by_cases hl : last ≤ e
      · have HV : Hid (mayB last name e = true) := by show _ = _; unfold mayB; simp [he, hn, hl]
        go_enter Tryz.func44, Tryz.ntmps44
        go_wp2_with (go_at_call 61; refine HE.out.mono ?_; rintro r w9 ⟨rfl, hw9⟩; subst w9)
        go_ret
        exact ⟨by rw [HV.out]; rfl, rfl⟩
      · have HV : Hid (mayB last name e = false) := by show _ = _; unfold mayB; simp [hl]
        have hlf : decide (last ≤ e) = false := decide_eq_false hl
        go_enter Tryz.func44, Tryz.ntmps44
        go_wp2_with (go_at_call 61; refine HE.out.mono ?_; rintro r w9 ⟨rfl, hw9⟩; subst w9)
        go_ret
        exact ⟨by rw [HV.out]; rfl, rfl⟩
set_option maxRecDepth 4000 in
set_option maxHeartbeats 4000000 in
theorem ropen_any (q B : Nat) (sv : Value) (last : Int) (rs : List Rw) (name : ByteArray) (w : World) (h : RTab w q B sv last rs) (hsm : rs.length ≤ 100000) :
    Calls Tryz.prog 45 #[.pointer (some ⟨q, 0, none⟩), .string name] w fun x w' => x = .returned (.int .i64 (openI rs name)) ∧ w' = w := by
  have hs : SeesE rwE w sv rs := h.row.sees
  obtain ⟨ao, cap, rfl⟩ := hs.form
  obtain ⟨n, hn⟩ : ∃ n, n = rs.length := ⟨_, rfl⟩
  rw [← hn] at hs h
  have q0 : w.cell? ⟨q, 0, none⟩ = some (.slice ao n cap) := blk_cell h.cell rfl
  have HS : Hid (SeesE rwE w (.slice ao n cap) rs) := hs
  have HN : Hid (n = rs.length) := hn
  have hnm : (n : Int) ≤ 100000 := by omega
  clear h hs hn hsm
  go_enter Tryz.func45, Tryz.ntmps45
  go_wp2_with fail
  go_loopw [5] (fun s5 wr => ∃ i : Nat, i ≤ n ∧ s5 = .int .i64 (i : Int) ∧ Hid (i ≤ seatP (openP name) rs) ∧ wr = w) (fun s5 _ => n - (intOf s5).toNat)
  case atStart => exact ⟨0, Nat.zero_le _, rfl, Nat.zero_le _, rfl⟩
  case round =>
    obtain ⟨i, hi, rfl, HI, hw⟩ := hrel
    subst hw
    by_cases hlt : i < n
    · have hil : i < rs.length := by have := HN.out; omega
      have hii : (i : Int) < (n : Int) := by omega
      have hi0 : (0 : Int) ≤ (i : Int) := by omega
      obtain ⟨b, off, e, hnn, hb, hc⟩ := rw_cells HS.out (by omega)
      obtain ⟨c0, c1, c2, c3⟩ := hc i hil
      clear hnn hc hb
      subst e
      have HSTEP : Hid (openP name rs[i] = false → i + 1 ≤ seatP (openP name) rs) := fun hp => seatP_step HI.out hil hp
      have HHERE : Hid (openP name rs[i] = true → openI rs name = (i : Int)) := fun hp => by
        have hse := seatP_here HI.out hil hp
        rw [open_yes (seatP_any.2 (by omega)), hse]
      obtain ⟨r, hr⟩ : ∃ r, r = rs[i] := ⟨_, rfl⟩
      rw [← hr] at c0 c1 c2 c3 HSTEP HHERE
      clear hr
      obtain ⟨nm, io, bo, di⟩ := r
      simp only at c0 c1 c2 c3
      by_cases hnm2 : nm = name
      · subst hnm2
        have hbb : (nm.toList == nm.toList) = true := by simp
        by_cases hd : di = 0
        · subst hd
          have HV : Hid (openI rs nm = (i : Int)) := HHERE.out (by unfold openP; simp)
          clear HSTEP HHERE
          go_wp2
          go_ret
          exact ⟨by rw [HV.out]; rfl, rfl⟩
        · have hdb : (di == 0) = false := by simpa using hd
          have HV : Hid (i + 1 ≤ seatP (openP nm) rs) := HSTEP.out (by unfold openP; simp [hd])
          clear HSTEP HHERE HI
          go_wp2
          go_roundw
          case rel => exact ⟨i + 1, by omega, by go_num, HV.out, by first | trivial | rfl⟩
          case measure => simp [intOf]; omega
      · have hbb : (nm.toList == name.toList) = false := by rw [bytes_eq]; exact decide_eq_false hnm2
        have hne : ¬ nm.toList = name.toList := by simpa using hbb
        have HV : Hid (i + 1 ≤ seatP (openP name) rs) := HSTEP.out (by unfold openP; simp [hnm2])
        clear HSTEP HHERE HI
        go_wp2
        go_roundw
        case rel => exact ⟨i + 1, by omega, by go_num, HV.out, by first | trivial | rfl⟩
        case measure => simp [intOf]; omega
    · have hin : ¬ (i : Int) < (n : Int) := by omega
      have HE : Hid (openI rs name = -1) := by
        have h1 : i ≤ seatP (openP name) rs := HI.out
        have h2 := HN.out
        refine open_no ?_
        rw [Bool.eq_false_iff]
        intro e
        have := seatP_any.1 e
        omega
      go_wp2
      go_ret
      exact ⟨by rw [HE.out]; rfl, rfl⟩
set_option maxRecDepth 4000 in
set_option maxHeartbeats 4000000 in
theorem rfind_any (q B : Nat) (sv : Value) (last : Int) (rs : List Rw) (name : ByteArray) (ep : Int) (w : World) (h : RTab w q B sv last rs) (hsm : rs.length ≤ 100000) :
    Calls Tryz.prog 13 #[.pointer (some ⟨q, 0, none⟩), .string name, .int .i64 ep] w fun x w' => x = .returned (.tuple #[.int .i64 (foundI rs name ep), .bool (foundB rs name ep)]) ∧ Below w.heap.size w w' := by
  have hs : SeesE rwE w sv rs := h.row.sees
  obtain ⟨ao, cap, rfl⟩ := hs.form
  obtain ⟨n, hn⟩ : ∃ n, n = rs.length := ⟨_, rfl⟩
  have hcell := h.cell
  rw [← hn] at hs hcell
  have H0 : Hid (w.heap[q]? = some (.cells #[.slice ao n cap, .int .i64 last] 30) ∧ SeesE rwE w (.slice ao n cap) rs) := ⟨hcell, hs⟩
  have HN : Hid (n = rs.length) := hn
  have hnm : (n : Int) ≤ 100000 := by omega
  clear h hs hn hsm hcell
  go_enter Tryz.func13, Tryz.ntmps13
  go_upto_region 2 with fail
  go_loopw [8] (fun s wr => ∃ i : Nat, i ≤ n ∧ s = .int .i64 (i : Int) ∧ Hid (i ≤ seatP (findP name ep) rs ∧ Below w.heap.size w wr)) (fun s _ => n - (intOf s).toNat)
  case atStart => exact ⟨0, Nat.zero_le _, rfl, Nat.zero_le _, Below.refl _ _⟩
  case round =>
    obtain ⟨wa, hwa⟩ : ∃ z, z = wr := ⟨_, rfl⟩
    subst hwa
    obtain ⟨i, hi, rfl, HI⟩ := hrel
    have hqk := blk_below HI.out.2 H0.out.1
    have q0 : wa.cell? ⟨q, 0, none⟩ = some (.slice ao n cap) := blk_cell hqk rfl
    have hql : q < wa.heap.size := blk_lt hqk
    clear hqk
    by_cases hlt : i < n
    · have hil : i < rs.length := by have := HN.out; omega
      have hii : (i : Int) < (n : Int) := by omega
      have hi0 : (0 : Int) ≤ (i : Int) := by omega
      obtain ⟨b, off, e, hnn, hb, hc⟩ := rw_cells (H0.out.2.below HI.out.2) (by omega)
      obtain ⟨c0, c1, c2, c3⟩ := hc i hil
      clear hnn hc
      subst e
      have HSTEP : Hid (findP name ep rs[i] = false → i + 1 ≤ seatP (findP name ep) rs) := fun hp => seatP_step HI.out.1 hil hp
      have HHERE : Hid (findP name ep rs[i] = true → foundI rs name ep = rs[i].ino ∧ foundB rs name ep = true) := fun hp => by
        have hse := seatP_here HI.out.1 hil hp
        unfold foundI foundB
        rw [find_seat (by omega)]
        refine ⟨by simp only [hse], seatP_any.2 (by omega)⟩
      obtain ⟨r, hr⟩ : ∃ r, r = rs[i] := ⟨_, rfl⟩
      rw [← hr] at c0 c1 c2 c3 HSTEP HHERE
      clear hr
      obtain ⟨nm, io, bo, di⟩ := r
      simp only at c0 c1 c2 c3 HHERE
      by_cases hnm2 : nm = name
      · subst hnm2
        have hbb : (nm.toList == nm.toList) = true := by simp
        have HC : Hid (wa.cell? ⟨b, off + i * 4 + 1, none⟩ = some (.int .i64 io) ∧ b < wa.heap.size ∧ wa.cell? ⟨q, 0, none⟩ = some (.slice (some ⟨b, off, none⟩) n cap)) := ⟨c1, hb, q0⟩
        have HH : Hid (Calls Tryz.prog 34 #[.agg #[.int .i64 bo, .int .i64 di], .int .i64 ep] wa fun r w' => r = .returned (.bool (holdsB bo di ep)) ∧ Below wa.heap.size wa w') := rholds_any bo di ep wa
        cases hh : holdsB bo di ep with
        | true =>
          rw [hh] at HH
          have HV : Hid (foundI rs nm ep = io ∧ foundB rs nm ep = true) := HHERE.out (by unfold findP; simp [hh])
          clear HSTEP HHERE hh
          go_wp2_with (go_at_call 34; refine HH.out.mono ?_; rintro x w2 ⟨rfl, hb2⟩; have HB2 : Hid (Below wa.heap.size wa w2) := hb2; have d1 : w2.cell? ⟨b, off + i * 4 + 1, none⟩ = some (.int .i64 io) := (hb2.cell (by exact HC.out.2.1)).trans HC.out.1; have p0 : w2.cell? ⟨q, 0, none⟩ = some (.slice (some ⟨b, off, none⟩) n cap) := (hb2.cell (by exact hql)).trans HC.out.2.2; have dl : b < w2.heap.size := cell_lt9 d1; have pl : q < w2.heap.size := cell_lt9 p0; clear hb2)
          go_ret2
          exact ⟨by rw [HV.out.1, HV.out.2]; rfl, bel_tr HI.out.2 HB2.out⟩
        | false =>
          rw [hh] at HH
          have HV : Hid (i + 1 ≤ seatP (findP nm ep) rs) := HSTEP.out (by unfold findP; simp [hh])
          clear HSTEP HHERE hh
          go_wp2_with (go_at_call 34; refine HH.out.mono ?_; rintro x w2 ⟨rfl, hb2⟩; have HB2 : Hid (Below wa.heap.size wa w2) := hb2; clear hb2)
          go_roundw
          case rel => exact ⟨i + 1, by omega, by go_num, HV.out, bel_tr HI.out.2 HB2.out⟩
          case measure => simp [intOf]; omega
      · have hbb : (nm.toList == name.toList) = false := by rw [bytes_eq]; exact decide_eq_false hnm2
        have hne : ¬ nm.toList = name.toList := by simpa using hbb
        have HV : Hid (i + 1 ≤ seatP (findP name ep) rs ∧ Below w.heap.size w wa) := ⟨HSTEP.out (by unfold findP; simp [hnm2]), HI.out.2⟩
        clear HSTEP HHERE HI
        go_wp2
        go_roundw
        case rel => exact ⟨i + 1, by omega, by go_num, HV.out⟩
        case measure => simp [intOf]; omega
    · have hin : ¬ (i : Int) < (n : Int) := by omega
      have HE : Hid (foundI rs name ep = 0 ∧ foundB rs name ep = false) := by
        have h1 : i ≤ seatP (findP name ep) rs := HI.out.1
        have h2 := HN.out
        have h3 : ¬ seatP (findP name ep) rs < rs.length := by omega
        unfold foundI foundB
        rw [find_none h3]
        refine ⟨rfl, ?_⟩
        rw [Bool.eq_false_iff]
        intro e
        exact h3 (seatP_any.1 e)
      go_wp2
      go_ret2
      exact ⟨by rw [HE.out.1, HE.out.2]; rfl, HI.out.2⟩
end Go.Proofs.YthjcmagionaepaaGreat
