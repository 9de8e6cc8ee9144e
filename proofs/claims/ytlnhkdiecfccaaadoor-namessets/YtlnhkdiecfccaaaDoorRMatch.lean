/- dolmenref1.Match: what one call answers. -/
import Derived.Test.YtlnhkdiecfccaaaDoorRJoin
import Derived.Deep.OwnRows
import Derived.Deep.QuietTactic
import Derived.BigQuiet
namespace Go.Proofs.YtlnhkdiecfccaaaDoor
open Go.RowKit Kit
set_option linter.unusedVariables false

/-- A byte of a text. -/
def cAt (s : ByteArray) (k : Nat) : Nat := (s.data.toList.getD k 0).toNat
theorem cAt_eq (s : ByteArray) (k : Nat) (h : k < s.size) : (s[k]'h).toNat = cAt s k := by
  have h2 : k < s.data.toList.length := by simpa using h
  have : s[k]'h = s.data.toList[k]'h2 := by simp [ByteArray.getElem_eq_getElem_data]
  rw [this]
  unfold cAt
  rw [List.getD_eq_getElem?_getD, List.getElem?_eq_getElem h2]
  rfl
/-- Do the first i signs of the pattern stand for the first k bytes of the name? -/
def hits (p n : ByteArray) : Nat → Nat → Bool
  | 0, 0 => true
  | 0, _ + 1 => false
  | i + 1, 0 => decide (cAt p i = 42) && hits p n i 0
  | i + 1, k + 1 => if cAt p i = 42 then hits p n i (k + 1) || hits p n (i + 1) k else (decide (cAt p i = 63) || decide (cAt p i = cAt n k)) && hits p n i k
  termination_by i k => (i, k)
def matchB (p n : ByteArray) : Bool := decide (p.size ≤ 40) && decide (n.size ≤ 40) && hits p n p.size n.size
theorem hits_s0 (p n : ByteArray) (i : Nat) (h : cAt p i = 42) : hits p n (i + 1) 0 = hits p n i 0 := by rw [hits]; simp [h]
theorem hits_s1 (p n : ByteArray) (i k : Nat) (h : cAt p i = 42) : hits p n (i + 1) (k + 1) = (hits p n i (k + 1) || hits p n (i + 1) k) := by rw [hits, if_pos h]
theorem hits_o0 (p n : ByteArray) (i : Nat) (h : ¬ cAt p i = 42) : hits p n (i + 1) 0 = false := by rw [hits]; simp [h]
theorem hits_o1 (p n : ByteArray) (i k : Nat) (h : ¬ cAt p i = 42) (h2 : cAt p i = 63 ∨ cAt p i = cAt n k) : hits p n (i + 1) (k + 1) = hits p n i k := by
  rw [hits, if_neg h]
  rcases h2 with h2 | h2 <;> simp [h2]
theorem hits_o2 (p n : ByteArray) (i k : Nat) (h : ¬ cAt p i = 42) (h2 : ¬ cAt p i = 63) (h3 : ¬ cAt p i = cAt n k) : hits p n (i + 1) (k + 1) = false := by
  rw [hits, if_neg h]; simp [h2, h3]

/-- A row of Booleans. -/
def MRow (w : World) (b N : Nat) (f : Nat → Bool) : Prop := w.rowIs b 4 (N + 1) (fun k => .bool (f k))
/-- What the round over the name keeps. -/
def MIn (p n : ByteArray) (w w2 : World) (bi bn i k : Nat) : Prop :=
  bi ≠ bn ∧ w.heap.size ≤ bn ∧ MRow w2 bi n.size (hits p n i) ∧ MRow w2 bn n.size (fun j => decide (j < k) && hits p n (i + 1) j) ∧ Below w.heap.size w w2
def MOut (p n : ByteArray) (w w1 : World) (bi i : Nat) : Prop := w.heap.size ≤ bi ∧ MRow w1 bi n.size (hits p n i) ∧ Below w.heap.size w w1
theorem MIn.stay {p n : ByteArray} {w w2 : World} {bi bn i k : Nat} (h : MIn p n w w2 bi bn i k) (hf : hits p n (i + 1) k = false) : MIn p n w w2 bi bn i (k + 1) := by
  obtain ⟨h1, h2, h3, h4, h5⟩ := h
  refine ⟨h1, h2, h3, World.rowIs.congr h4 fun j hj => ?_, h5⟩
  by_cases hjk : j = k
  · subst hjk; simp [hf]
  · have : (j < k) = (j < k + 1) := by rw [eq_iff_iff]; omega
    simp [this]
theorem MIn.put {p n : ByteArray} {w w2 : World} {bi bn i k : Nat} (h : MIn p n w w2 bi bn i k) {b : Bool} (hf : hits p n (i + 1) k = b) : MIn p n w (w2.setCell ⟨bn, k, none⟩ (.bool b)) bi bn i (k + 1) := by
  obtain ⟨h1, h2, h3, h4, h5⟩ := h
  refine ⟨h1, h2, World.rowIs.setOther h3 (by exact h1) _, World.rowIs.congr (World.rowIs.set h4 k _) fun j hj => ?_, h5.setCell (by exact h2) _⟩
  by_cases hjk : j = k
  · subst hjk; simp [hf]
  · have : (j < k) = (j < k + 1) := by rw [eq_iff_iff]; omega
    simp [this, hjk]
theorem MIn.drewN {p n : ByteArray} {w w2 : World} {bi bn i k : Nat} (h : MIn p n w w2 bi bn i k) (m : Nat) : MIn p n w (w2.drewN m) bi bn i k :=
  ⟨h.1, h.2.1, h.2.2.1, h.2.2.2.1, ⟨h.2.2.2.2.os, h.2.2.2.2.tape, h.2.2.2.2.output, h.2.2.2.2.size, h.2.2.2.2.block⟩⟩
theorem MIn.start {p n : ByteArray} {w w1 : World} {bi i : Nat} (h : MOut p n w w1 bi i) : MIn p n w (w1.alloc (.cells (madeCells #[.bool false] (n.size + 1)) 4)) bi w1.heap.size i 0 := by
  obtain ⟨h1, h2, h3⟩ := h
  have hl := World.rowIs.lt h2
  refine ⟨by omega, by have := h3.size; omega, World.rowIs.alloc h2 _, World.rowIs.congr (World.rowIs_made w1 (.bool false) (n.size + 1) 4) fun j hj => by simp, h3.alloc h3.size _⟩
theorem MIn.out {p n : ByteArray} {w w2 : World} {bi bn i : Nat} (h : MIn p n w w2 bi bn i (n.size + 1)) : MOut p n w w2 bn (i + 1) := by
  obtain ⟨h1, h2, h3, h4, h5⟩ := h
  exact ⟨h2, World.rowIs.congr h4 fun j hj => by simp [hj], h5⟩
theorem MOut.start (p n : ByteArray) (w : World) : MOut p n w (w.alloc (.cells ((madeCells #[.bool false] (n.size + 1)).setIfInBounds 0 (.bool true)) 4)) w.heap.size 0 := by
  refine ⟨Nat.le_refl _, ?_, (Below.refl _ _).alloc (Nat.le_refl _) _⟩
  have h := World.rowIs_alloc w ((madeCells #[.bool false] (n.size + 1)).setIfInBounds 0 (.bool true)) 4 (fun k => .bool (hits p n 0 k)) (fun i hi => by
    rw [Array.size_setIfInBounds, size_madeCells] at hi
    cases i with
    | zero => simp [hits, madeCells]
    | succ j => simp [hits, madeCells, hi, Nat.mod_one])
  rw [Array.size_setIfInBounds, size_madeCells] at h
  exact h
theorem infoB : (Tryd.prog.info? 4).map (fun i => (i.zero, i.size, i.bytes)) = some (some (.bool false), 1, 1) := by kernel_rfl

set_option maxRecDepth 4000 in
set_option maxHeartbeats 8000000 in
theorem match_any (p n : ByteArray) (w : World) (hp : p.size ≤ maxLen) (hn : n.size ≤ maxLen) :
    Calls Tryd.prog 23 #[.string p, .string n] w fun e w' => e = .returned (.bool (matchB p n)) ∧ Below w.heap.size w w' := by
  unfold maxLen at hp hn
  go_enter Tryd.func23, Tryd.ntmps23
  by_cases hp40 : p.size ≤ 40
  · by_cases hn40 : n.size ≤ 40
    · have i1 : (p.size : Int) ≤ 40 := by omega
      have i2 : (n.size : Int) ≤ 40 := by omega
      have hmk := run_make_row' (P := Tryd.prog) 53 4 (.bool false) 1 Tryd.underlying53 infoB rfl .i64 .i64 (n.size + 1) (by omega) (by omega)
      have ec : ((n.size + 1 : Nat) : Int) = (n.size : Int) + 1 := by omega
      rw [ec] at hmk
      have c0 := World.rowIs.cell (World.rowIs_made w (.bool false) (n.size + 1) 4) (i := 0) (by omega)
      have z0 := World.rowIs.frozen (World.rowIs_made w (.bool false) (n.size + 1) 4) 0
      clear ec hp hn
      go_wp2
      go_loopw [5, 6] (fun u v wr => ∃ i bi : Nat, i ≤ p.size ∧ u = .slice (some ⟨bi, 0, none⟩) (n.size + 1) (n.size + 1) ∧ v = .int .i64 (i : Int) ∧ Hid (MOut p n w wr bi i)) (fun _ v _ => p.size - (intOf v).toNat)
      case atStart => exact ⟨0, w.heap.size, Nat.zero_le _, rfl, rfl, MOut.start p n w⟩
      case round =>
        obtain ⟨i, bi, hi, rfl, rfl, HM⟩ := hrel
        clear c0 z0
        by_cases hlt : i < p.size
        · have i0 : (i : Int) < (p.size : Int) := by omega
          have i3 : (0 : Int) ≤ (i : Int) := by omega
          go_wp2
          clear hmk
          have HS : Hid (MIn p n w (wr.alloc (.cells (madeCells #[.bool false] (n.size + 1)) 4)) bi wr.heap.size i 0) := MIn.start HM.out
          clear HM
          go_loopw [8] (fun v wx => ∃ k : Nat, k ≤ n.size + 1 ∧ v = .int .i64 (k : Int) ∧ Hid (MIn p n w wx bi wr.heap.size i k)) (fun v _ => n.size + 1 - (intOf v).toNat)
          case atStart => exact ⟨0, Nat.zero_le _, rfl, HS.out⟩
          case round =>
            obtain ⟨k, hk, rfl, HI⟩ := hrel
            clear HS
            by_cases hkn : k ≤ n.size
            · have j0 : (k : Int) ≤ (n.size : Int) := by omega
              have j1 : (k : Int) < (n.size : Int) + 1 := by omega
              have j2 : (0 : Int) ≤ (k : Int) := by omega
              have cn := World.rowIs.cell HI.out.2.2.2.1 (i := k) (by omega)
              simp only [Nat.lt_irrefl, decide_false, Bool.false_and] at cn
              have zn := World.rowIs.frozen HI.out.2.2.2.1 k
              have ci := World.rowIs.cell HI.out.2.2.1 (i := k) (by omega)
              by_cases star : cAt p i = 42
              · have e42 : (((p[i]'hlt).toNat : Int) == 42) = true := by rw [cAt_eq]; simp [star]
                cases hb : hits p n i k with
                | true =>
                  rw [hb] at ci
                  have HT : Hid (hits p n (i + 1) k = true) := by
                    show _ = _
                    cases k with
                    | zero => rw [hits_s0 p n i star, hb]
                    | succ m => rw [hits_s1 p n i m star, hb]; rfl
                  clear hb star
                  go_wp2
                  go_roundw
                  case rel => exact ⟨k + 1, by omega, by simp, HI.out.put HT.out⟩
                  case measure => simp [intOf]; omega
                | false =>
                  rw [hb] at ci
                  cases k with
                  | zero =>
                    have HT : Hid (hits p n (i + 1) 0 = false) := by show _ = _; rw [hits_s0 p n i star, hb]
                    clear hb star
                    go_wp2
                    go_roundw
                    case rel => exact ⟨0 + 1, by omega, by simp, HI.out.put HT.out⟩
                    case measure => simp [intOf]
                  | succ m =>
                    have cm := World.rowIs.cell HI.out.2.2.2.1 (i := m) (by omega)
                    simp only [Nat.lt_succ_self, decide_true, Bool.true_and] at cm
                    have HT : Hid (hits p n (i + 1) (m + 1) = hits p n (i + 1) m) := by show _ = _; rw [hits_s1 p n i m star, hb]; rfl
                    obtain ⟨b, hb2⟩ : ∃ b, hits p n (i + 1) m = b := ⟨_, rfl⟩
                    rw [hb2] at cm HT
                    have ec : ((m + 1 : Nat) : Int) = (m : Int) + 1 := by omega
                    have f0 : (m : Int) + 1 - 1 = (m : Int) := by omega
                    rw [ec] at j0 j1 j2
                    have f1 : (m : Int) < (n.size : Int) + 1 := by omega
                    have f2 : (0 : Int) ≤ (m : Int) := by omega
                    have f3 : (0 : Int) < (m : Int) + 1 := by omega
                    rw [ec]
                    clear hb star hb2 ec
                    go_wp2
                    go_roundw
                    case rel => exact ⟨m + 1 + 1, by omega, by simp, HI.out.put HT.out⟩
                    case measure => simp [intOf]; omega
              · have e42 : (((p[i]'hlt).toNat : Int) == 42) = false := by rw [cAt_eq]; simp; omega
                cases k with
                | zero =>
                  have HT : Hid (hits p n (i + 1) 0 = false) := hits_o0 p n i star
                  clear star
                  go_wp2
                  go_quiet (fail)
                  go_wp2
                  go_roundw
                  case rel => exact ⟨0 + 1, by omega, by simp, (HI.out.stay HT.out).drewN _⟩
                  case measure => simp [intOf]
                | succ m =>
                  have cm := World.rowIs.cell HI.out.2.2.1 (i := m) (by omega)
                  have hm : m < n.size := by omega
                  have ec : ((m + 1 : Nat) : Int) = (m : Int) + 1 := by omega
                  have f0 : (m : Int) + 1 - 1 = (m : Int) := by omega
                  have fw : IntKind.i64.wrap (m : Int) = (m : Int) := by rw [IntKind.wrap_i64]; omega
                  rw [ec] at j0 j1 j2
                  have f1 : (m : Int) < (n.size : Int) + 1 := by omega
                  have f2 : (0 : Int) ≤ (m : Int) := by omega
                  have f3 : (0 : Int) < (m : Int) + 1 := by omega
                  have f4 : (m : Int) < (n.size : Int) := by omega
                  rw [ec]
                  by_cases h63 : cAt p i = 63
                  · have e63 : (((p[i]'hlt).toNat : Int) == 63) = true := by rw [cAt_eq]; simp [h63]
                    have HT : Hid (hits p n (i + 1) (m + 1) = hits p n i m) := hits_o1 p n i m star (.inl h63)
                    clear star h63 ec
                    go_wp2
                    go_quiet (fail)
                    go_wp2
                    go_roundw
                    case rel => exact ⟨m + 1 + 1, by omega, by simp, (HI.out.drewN _).put HT.out⟩
                    case measure => simp [intOf]; omega
                  · have e63 : (((p[i]'hlt).toNat : Int) == 63) = false := by rw [cAt_eq]; simp; omega
                    by_cases hs : cAt p i = cAt n m
                    · have es : (((p[i]'hlt).toNat : Int) == ((n[m]'hm).toNat : Int)) = true := by rw [cAt_eq, cAt_eq]; simp [hs]
                      have HT : Hid (hits p n (i + 1) (m + 1) = hits p n i m) := hits_o1 p n i m star (.inr hs)
                      clear star h63 ec hs
                      go_wp2
                      go_quiet (fail)
                      go_wp2
                      go_roundw
                      case rel => exact ⟨m + 1 + 1, by omega, by simp, (HI.out.drewN _).put HT.out⟩
                      case measure => simp [intOf]; omega
                    · have es : (((p[i]'hlt).toNat : Int) == ((n[m]'hm).toNat : Int)) = false := by rw [cAt_eq, cAt_eq]; simp; omega
                      have HT : Hid (hits p n (i + 1) (m + 1) = false) := hits_o2 p n i m star h63 hs
                      clear star h63 ec hs
                      go_wp2
                      go_quiet (fail)
                      go_wp2
                      go_roundw
                      case rel => exact ⟨m + 1 + 1, by omega, by simp, (HI.out.stay HT.out).drewN _⟩
                      case measure => simp [intOf]; omega
            · have hkl : k = n.size + 1 := by omega
              subst hkl
              have ec : ((n.size + 1 : Nat) : Int) = (n.size : Int) + 1 := by omega
              rw [ec]
              have j0 : ¬ ((n.size : Int) + 1 ≤ (n.size : Int)) := by omega
              clear ec
              go_wp2
              go_roundw
              case rel => exact ⟨i + 1, _, by omega, rfl, by simp, HI.out.out⟩
              case measure => simp [intOf]; omega
        · have hkl : i = p.size := by omega
          subst hkl
          have c1 := World.rowIs.cell HM.out.2.1 (i := n.size) (by omega)
          have HR : Hid (matchB p n = hits p n p.size n.size) := by show _ = _; simp [matchB, hp40, hn40]
          have i4 : (n.size : Int) < (n.size : Int) + 1 := by omega
          clear hmk
          go_wp2
          go_ret
          exact ⟨congrArg (fun b => Ending.returned (.bool b)) HR.out.symm, HM.out.2.2⟩
    · have HR : Hid (matchB p n = false) := by show _ = _; simp [matchB, hn40]
      have i1 : (40 : Int) < (n.size : Int) := by omega
      have i2 : (p.size : Int) ≤ 40 := by omega
      clear hp hn
      go_wp2
      go_ret
      exact ⟨congrArg (fun b => Ending.returned (.bool b)) HR.out.symm, Below.refl _ _⟩
  · have HR : Hid (matchB p n = false) := by show _ = _; simp [matchB, hp40]
    have i1 : (40 : Int) < (p.size : Int) := by omega
    clear hp hn
    go_wp2
    go_ret
    exact ⟨congrArg (fun b => Ending.returned (.bool b)) HR.out.symm, Below.refl _ _⟩
end Go.Proofs.YtlnhkdiecfccaaaDoor
