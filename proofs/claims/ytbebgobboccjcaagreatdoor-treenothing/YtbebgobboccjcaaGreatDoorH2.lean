/- Several texts in one: DSearch LDec LErr Door5 NSplit NSplit2 NJoin NParent TFind TLaw DMath DFind DBytes DConcat DLinks DNode DPlace DPut DNameA DUnname DMath2 DRen DRen2 DRen3 DRen4 LSame TBytes TRep. -/
import Derived.Test.YtbebgobboccjcaaGreatDoorH1
import Derived.Test.YtbebgobboccjcaaGreatDoorPShelfC
import Derived.Shelf.Small.Strs
import Derived.Lib.Bytealg
import Derived.Deep.LoopGhost
import Derived.Test.YtbebgobboccjcaaGreatDoorPAz0
import Derived.Test.YtbebgobboccjcaaGreatDoorRows
import Derived.ProofKit
import Derived.LaidMore
import Derived.LaidHandle
import Derived.LaidSub
import Derived.OpenShut
import Derived.Stop.Joined
import Derived.Lay
import Derived.LaidOnce
import Derived.Test.YtbebgobboccjcaaGreatDoorPShelf
import Derived.Lib.SplitLaws
import Derived.Lib.IndexMore
import Derived.Shelf.Strings.OnBuilder
import Derived.Deep.RegionHeld3
import Derived.Deep.DeepFit
import Derived.Lib.UnsafeStr
import Derived.Lib.BufferWrite
import Derived.Laws.CopyOwn
import Derived.Deep.OwnRows
import Derived.Shelf.Spec.SlicesGrow
import Derived.Deep.RegionWith
import Derived.RegionTactic
namespace Go.Proofs.YtbebgobboccjcaaGreatDoor
open Go.RowKit Kit
set_option linter.unusedVariables false

def cmpB (a b : ByteArray) : Int := Lib.compareBytes a.data.toList b.data.toList
theorem cmpL_less : ∀ (a b : List UInt8), (Lib.compareBytes a b < 0 ↔ Op.bytesLess a b = true) ∧ (Lib.compareBytes a b = 0 ↔ a = b)
 | [], [] => by simp [Lib.compareBytes, Op.bytesLess]
 | [], _ :: _ => by simp [Lib.compareBytes, Op.bytesLess]
 | _ :: _, [] => by simp [Lib.compareBytes, Op.bytesLess]
 | a :: xs, b :: ys => by
   have ih := cmpL_less xs ys
   unfold Lib.compareBytes Op.bytesLess
   by_cases h1 : a < b
   · simp [h1]
     intro e; subst e; exact absurd h1 (UInt8.lt_irrefl _)
   · by_cases h2 : b < a
     · have e : a ≠ b := fun e => by subst e; exact absurd h2 (UInt8.lt_irrefl _)
       simp [h1, h2, e]
     · have e : a = b := UInt8.le_antisymm (UInt8.not_lt.1 h2) (UInt8.not_lt.1 h1)
       subst e
       simp [UInt8.lt_irrefl, ih.1, ih.2]
theorem ba_toList (a : ByteArray) : a.data.toList = a.toList := by
 first | exact (ByteArray.toList_eq a).symm | simp
theorem cmp_less (a b : ByteArray) : cmpB a b < 0 ↔ less a b := by unfold cmpB less; rw [ba_toList, ba_toList]; exact (cmpL_less _ _).1
theorem cmp_same (a b : ByteArray) : cmpB a b = 0 ↔ a = b := by
 unfold cmpB
 rw [(cmpL_less _ _).2]
 constructor
 · intro h
   have := Array.toList_inj.1 h
   cases a; cases b; simp at this; rw [this]
 · rintro rfl; rfl
set_option maxRecDepth 4000 in
set_option maxHeartbeats 4000000 in
theorem dcmp_any (a b : ByteArray) (i : Int) (w : World) : Calls Tryz.prog 139 #[.agg #[.string a, .int .i64 i], .string b] w fun e w' => e = .returned (.int .i64 (cmpB a b)) ∧ w' = w.alloc (.cells #[.string a, .int .i64 i] 97) := by
 have HX : ∀ w, Hid (Calls Tryz.prog 140 #[.string a, .string b] w fun e w' => e = .returned (.int .i64 (cmpB a b)) ∧ w' = w) := fun w => Any.strings_Compare Tryz.lays106 a b w
 go_enter Tryz.func139, Tryz.ntmps139
 go_wp2_with (go_at_call 140; refine (HX _).out.mono ?_; rintro e w' ⟨rfl, rfl⟩)
 go_ret
 exact ⟨rfl, rfl⟩
def lowB (l : List ByteArray) (s : ByteArray) : Nat := l.countP fun q => decide (cmpB q s < 0)
theorem low_split : ∀ (l : List ByteArray) (s : ByteArray), Rising l → (∀ j (hj : j < l.length), j < lowB l s → less l[j] s) ∧ (∀ j (hj : j < l.length), lowB l s ≤ j → ¬ less l[j] s)
 | [], s, _ => ⟨fun j hj => by simp at hj, fun j hj => by simp at hj⟩
 | a :: r, s, h => by
   obtain ⟨h1, h2⟩ := List.pairwise_cons.1 h
   have ih := low_split r s h2
   unfold lowB at *
   rw [List.countP_cons]
   by_cases c : cmpB a s < 0
   · simp only [c, decide_true, if_true]
     refine ⟨fun j hj hl => ?_, fun j hj hl => ?_⟩
     · cases j with
       | zero => exact (cmp_less a s).1 c
       | succ j => exact ih.1 j (by simpa using hj) (by omega)
     · cases j with
       | zero => omega
       | succ j => exact ih.2 j (by simpa using hj) (by omega)
   · have hz : r.countP (fun q => decide (cmpB q s < 0)) = 0 := by
      rw [List.countP_eq_zero]
      intro q hq
      simp only [decide_eq_true_eq]
      intro hlt
      exact c ((cmp_less a s).2 (less_trans (h1 q hq) ((cmp_less q s).1 hlt)))
     simp only [c, decide_false, hz]
     refine ⟨fun j hj hl => by simp at hl, fun j hj _ hlt => ?_⟩
     cases j with
     | zero => exact c ((cmp_less a s).2 hlt)
     | succ j => exact ih.2 j (by simpa using hj) (by omega) hlt
theorem low_le (l : List ByteArray) (s : ByteArray) : lowB l s ≤ l.length := List.countP_le_length
theorem low_of {l : List ByteArray} {s : ByteArray} (h : Rising l) {k : Nat} (hk : k ≤ l.length) (h1 : ∀ j (hj : j < l.length), j < k → less l[j] s) (h2 : ∀ j (hj : j < l.length), k ≤ j → ¬ less l[j] s) : lowB l s = k := by
 have hs := low_split l s h
 have hl := low_le l s
 by_cases c : lowB l s < k
 · exact absurd (h1 (lowB l s) (by omega) c) (hs.2 _ (by omega) (Nat.le_refl _))
 · by_cases d : k < lowB l s
   · exact absurd (hs.1 k (by omega) d) (h2 k (by omega) (Nat.le_refl _))
   · omega
theorem low_mem {l : List ByteArray} {s : ByteArray} (h : Rising l) : s ∈ l ↔ ∃ hl : lowB l s < l.length, l[lowB l s] = s := by
 have hs := low_split l s h
 constructor
 · intro hm
   obtain ⟨j, hj, rfl⟩ := List.mem_iff_getElem.1 hm
   have e : lowB l l[j] = j := low_of h (by omega) (fun i hi hij => List.pairwise_iff_getElem.1 h i j hi hj hij) (fun i hi hij hlt => by
    by_cases e : i = j
    · subst e; exact less_irrefl _ hlt
    · exact less_irrefl _ (less_trans hlt (List.pairwise_iff_getElem.1 h j i hj hi (by omega))))
   refine ⟨by omega, ?_⟩
   simp only [e]
 · rintro ⟨h1, h2⟩
   rw [← h2]
   exact List.getElem_mem h1
def hasB (l : List ByteArray) (s : ByteArray) : Bool := l.any fun q => decide (q = s)
theorem has_iff {l : List ByteArray} {s : ByteArray} : hasB l s = true ↔ s ∈ l := by
 unfold hasB
 rw [List.any_eq_true]
 constructor
 · rintro ⟨q, hq, e⟩
   rw [← of_decide_eq_true e]; exact hq
 · intro h
   exact ⟨s, h, decide_eq_true rfl⟩
set_option maxRecDepth 4000 in
set_option maxHeartbeats 8000000 in
theorem dbin_any (v : Value) (ps : List (ByteArray × Int)) (s : ByteArray) (w : World) (h : SeesS w v ps) (hr : Rising (ps.map Prod.fst)) (hsm : ps.length ≤ 1000000) :
 Calls Tryz.prog 138 #[v, .string s, .func (.func 139) #[] #[]] w fun e w' => e = .returned (.tuple #[.int .i64 (lowB (ps.map Prod.fst) s : Nat), .bool (hasB (ps.map Prod.fst) s)]) ∧ Below w.heap.size w w' := by
 obtain ⟨ao, cap, rfl, h1, h2, h3, h4⟩ := h
 have lm : (ps.length : Int) ≤ 1000000 := by omega
 have HC : Hid (∀ a i w, Calls Tryz.prog 139 #[.agg #[.string a, .int .i64 i], .string s] w fun e w' => e = .returned (.int .i64 (cmpB a s)) ∧ w' = w.alloc (.cells #[.string a, .int .i64 i] 97)) := fun a i w => dcmp_any a s i w
 have H4 : Hid (0 < ps.length → _) := h4
 have HR : Hid (Rising (ps.map Prod.fst)) := hr
 clear h1 h2 h3 h4 hr hsm
 go_enter Tryz.func138, Tryz.ntmps138
 go_wp2
 go_loopg [9, 10] ps.length (fun kx s9 s10 wr => ∃ lo hi : Nat, s9 = .int .i64 lo ∧ s10 = .int .i64 hi ∧ lo ≤ hi ∧ hi ≤ ps.length ∧ hi - lo ≤ kx ∧ Hid (Below w.heap.size w wr) ∧
  Hid ((∀ j (hj : j < ps.length), j < lo → less ps[j].1 s) ∧ (∀ j (hj : j < ps.length), hi ≤ j → ¬ less ps[j].1 s)))
 case atStart => exact ⟨0, ps.length, rfl, rfl, Nat.zero_le _, Nat.le_refl _, by omega, Below.refl _ _, ⟨fun j hj h => by omega, fun j hj h => by omega⟩⟩
 case round =>
  obtain ⟨lo, hi, rfl, rfl, hlh, hin, hg, HB, HI⟩ := hrel
  by_cases hlt : lo < hi
  · obtain ⟨b, off, hao, hb, hc⟩ := H4.out (by omega)
    subst hao
    obtain ⟨m, hm⟩ : ∃ m : Nat, m = (lo + hi) / 2 := ⟨_, rfl⟩
    have hm2 : ((lo : Int) + (hi : Int)) / 2 = (m : Int) := by omega
    have ml : m < ps.length := by omega
    have mi : (m : Int) < (ps.length : Int) := by omega
    have c := at2_of hc ml
    have c0 := (HB.out.cell hb).trans c.1
    have c1 := (HB.out.cell hb).trans c.2
    obtain ⟨x, hx⟩ : ∃ x, ps[m].1 = x := ⟨_, rfl⟩
    rw [hx] at c0
    have HX : Hid (ps[m].1 = x) := hx
    have HM : Hid (m = (lo + hi) / 2) := hm
    clear hc c hx hm
    by_cases hyx : cmpB x s < 0
    · go_wp2_with (go_at_call 139; refine (HC.out _ _ _).mono ?_; rintro e w' ⟨rfl, rfl⟩)
      go_roundg (hi - (m + 1))
      case measure => have := HM.out; omega
      case rel =>
       have := HM.out
       refine ⟨m + 1, hi, by simp, rfl, by omega, hin, Nat.le_refl _, HB.out.alloc HB.out.size _, ⟨fun j hj hl => ?_, HI.out.2⟩⟩
       by_cases e : j = m
       · subst e; rw [HX.out]; exact (cmp_less x s).1 hyx
       · have h1 := List.pairwise_iff_getElem.1 HR.out j m (by simpa using hj) (by simpa using ml) (by omega)
         simp only [List.getElem_map] at h1
         rw [HX.out] at h1
         exact less_trans h1 ((cmp_less x s).1 hyx)
    · have HY : Hid (¬ cmpB x s < 0) := hyx
      go_wp2_with (go_at_call 139; refine (HC.out _ _ _).mono ?_; rintro e w' ⟨rfl, rfl⟩)
      go_roundg (m - lo)
      case measure => have := HM.out; omega
      case rel =>
       have := HM.out
       refine ⟨lo, m, rfl, rfl, by omega, by omega, Nat.le_refl _, HB.out.alloc HB.out.size _, ⟨HI.out.1, fun j hj hl => ?_⟩⟩
       by_cases e : j = m
       · subst e; rw [HX.out]; exact fun h => by have h1 := (cmp_less x s).2 h; have h2 : 0 ≤ cmpB x s := HY.out; omega
       · intro hlt2
         have h1 := List.pairwise_iff_getElem.1 HR.out m j (by simpa using ml) (by simpa using hj) (by omega)
         simp only [List.getElem_map] at h1
         rw [HX.out] at h1
         have h3 := (cmp_less x s).2 (less_trans h1 hlt2); have h2 : 0 ≤ cmpB x s := HY.out; omega
  · obtain rfl : lo = hi := by omega
    have HL : Hid (lowB (ps.map Prod.fst) s = lo) := low_of HR.out (by simpa using hin) (fun j hj hl => by simp only [List.getElem_map]; exact HI.out.1 j (by simpa using hj) hl) (fun j hj hl => by simp only [List.getElem_map]; exact HI.out.2 j (by simpa using hj) hl)
    have HM := low_mem (s := s) HR.out
    rw [HL.out] at HM
    by_cases hn : lo < ps.length
    · obtain ⟨b, off, hao, hb, hc⟩ := H4.out (by omega)
      subst hao
      have mi : (lo : Int) < (ps.length : Int) := by omega
      have c := at2_of hc hn
      have c0 := (HB.out.cell hb).trans c.1
      have c1 := (HB.out.cell hb).trans c.2
      obtain ⟨x, hx⟩ : ∃ x, ps[lo].1 = x := ⟨_, rfl⟩
      rw [hx] at c0
      have HB2 : Hid (hasB (ps.map Prod.fst) s = decide (cmpB x s = 0)) := by
       show _ = _
       rw [Bool.eq_iff_iff, has_iff, HM, decide_eq_true_iff, cmp_same, ← hx]
       constructor
       · rintro ⟨_, h⟩; simpa using h
       · intro h; exact ⟨by simpa using hn, by simpa using h⟩
      clear hc c hx HM
      by_cases hyx : cmpB x s = 0
      · rw [hyx] at HB2
        go_wp2_with (go_at_call 139; refine (HC.out _ _ _).mono ?_; rintro e w' ⟨rfl, rfl⟩)
        go_ret2
        exact ⟨by rw [HL.out, HB2.out]; rfl, HB.out.alloc HB.out.size _⟩
      · have hye : (cmpB x s == 0) = false := beq_eq_false_iff_ne.2 hyx
        go_wp2_with (go_at_call 139; refine (HC.out _ _ _).mono ?_; rintro e w' ⟨rfl, rfl⟩)
        go_ret2
        exact ⟨by rw [HL.out, HB2.out, decide_eq_false hyx]; rfl, HB.out.alloc HB.out.size _⟩
    · have HF : Hid (hasB (ps.map Prod.fst) s = false) := by
       show _ = _
       rw [Bool.eq_false_iff]
       intro h
       obtain ⟨h1, _⟩ := HM.1 (has_iff.1 h)
       simp at h1
       omega
      clear HM
      go_wp2
      go_ret2
      exact ⟨by rw [HL.out, HF.out]; rfl, HB.out⟩
set_option maxRecDepth 4000 in
set_option maxHeartbeats 4000000 in
theorem dsearch_any (f : DN) (s : ByteArray) (w : World) (h : f.is w) (hr : Rising f.n.names) (hl : f.n.names.length = f.n.inos.length) (hsm : f.n.names.length ≤ 1000000) :
 Calls Tryz.prog 116 #[f.val, .string s] w fun e w' => e = .returned (.tuple #[.int .i64 (lowB f.n.names s : Nat), .bool (hasB f.n.names s)]) ∧ Below w.heap.size w w' := by
 have e1 : (pairsB f.n).map Prod.fst = f.n.names := List.map_fst_zip (by omega)
 have HX : Hid (∀ w, f.is w → Calls Tryz.prog 138 #[f.s, .string s, .func (.func 139) #[] #[]] w fun e w' => e = .returned (.tuple #[.int .i64 (lowB f.n.names s : Nat), .bool (hasB f.n.names s)]) ∧ Below w.heap.size w w') := fun w h => by
  have := dbin_any f.s (pairsB f.n) s w h.2 (by rw [e1]; exact hr) (by unfold pairsB; rw [List.length_zip]; omega)
  rw [e1] at this
  exact this
 have H1 : Hid (f.is w) := h
 clear h hr hl e1 hsm
 unfold DN.val
 go_enter Tryz.func116, Tryz.ntmps116
 go_wp2_with fail
 go_at_call 138
 refine (HX.out _ (H1.out.below ((Below.refl _ _).alloc (Nat.le_refl _) _))).mono ?_
 rintro e w' ⟨rfl, hb⟩
 have HB : Hid (Below w.heap.size w w') := bel2v ((Below.refl _ _).alloc (Nat.le_refl _) _) hb
 clear hb
 go_wp2
 go_ret2
 exact ⟨rfl, HB.out⟩
set_option maxRecDepth 4000 in
set_option maxHeartbeats 4000000 in
theorem dleads_any (f : DN) (s : ByteArray) (w : World) (h : f.is w) (hr : Rising f.n.names) (hl : f.n.names.length = f.n.inos.length) (hsm : f.n.names.length ≤ 1000000) :
 Calls Tryz.prog 78 #[f.val, .string s] w fun e w' => e = .returned (.tuple #[.int .i64 (if hasB f.n.names s then f.n.inos.getD (lowB f.n.names s) 0 else 0), .bool (hasB f.n.names s)]) ∧ Below w.heap.size w w' := by
 have HX : Hid (∀ w, f.is w → _) := fun w h => dsearch_any f s w h hr hl hsm
 have HM := low_mem (s := s) hr
 obtain ⟨ao, cap, hs, h1, h2, h3, h4⟩ := h.2
 have hpl : (pairsB f.n).length = f.n.names.length := by unfold pairsB; rw [List.length_zip]; omega
 have H1 : Hid (f.is w) := h
 cases hh : hasB f.n.names s with
 | false =>
   rw [hh] at HX
   clear h HM hs h1 h2 h3 h4 hpl hr hl hh hsm
   unfold DN.val at *
   go_enter Tryz.func78, Tryz.ntmps78
   go_wp2_with fail
   go_at_call 116
   refine (HX.out _ (H1.out.below ((Below.refl _ _).alloc (Nat.le_refl _) _))).mono ?_
   rintro e w' ⟨rfl, hb⟩
   have HB : Hid (Below w.heap.size w w') := bel2v ((Below.refl _ _).alloc (Nat.le_refl _) _) hb
   clear hb
   go_wp2
   go_ret2
   exact ⟨rfl, HB.out⟩
 | true =>
   obtain ⟨hlt, _⟩ := HM.1 (has_iff.1 hh)
   rw [hh] at HX
   obtain ⟨k, hk⟩ : ∃ k, lowB f.n.names s = k := ⟨_, rfl⟩
   rw [hk] at HX hlt ⊢
   obtain ⟨b, off, hao, hb, hc⟩ := h4 (by omega)
   subst hao
   have c1 := (at2_of hc (k := k) (by omega)).2
   have e2 : ((pairsB f.n)[k]'(by omega)).2 = f.n.inos.getD k 0 := by
    have : k < f.n.inos.length := by omega
    simp [pairsB, List.getD, this]
   rw [e2] at c1
   obtain ⟨x, hx⟩ : ∃ x, f.n.inos.getD k 0 = x := ⟨_, rfl⟩
   rw [hx] at c1 ⊢
   have HC1 : Hid (w.cell? ⟨b, off + k * 2 + 1, none⟩ = some (.int .i64 x) ∧ b < w.heap.size) := ⟨c1, hb⟩
   rw [hpl] at hs
   have ki : (k : Int) < (f.n.names.length : Int) := by omega
   clear h HM h1 h2 h3 h4 hpl hr hl hh hsm hk hc e2 hx c1 hb hlt
   unfold DN.val at *
   rw [hs]
   rw [hs] at HX
   go_enter Tryz.func78, Tryz.ntmps78
   go_wp2_with fail
   go_at_call 116
   refine (HX.out _ (H1.out.below ((Below.refl _ _).alloc (Nat.le_refl _) _))).mono ?_
   rintro e w' ⟨rfl, hb⟩
   have HB : Hid (Below w.heap.size w w') := bel2v ((Below.refl _ _).alloc (Nat.le_refl _) _) hb
   have c1 : w'.cell? ⟨b, off + k * 2 + 1, none⟩ = some (.int .i64 x) := (HB.out.cell HC1.out.2).trans HC1.out.1
   have d2 : w'.cell? ⟨w.heap.size, 2, none⟩ = some (.slice (some ⟨b, off, none⟩) f.n.names.length cap) := by
    rw [hb.cell (by simp)]
    simp
   clear hb
   go_wp2
   go_ret2
   exact ⟨rfl, HB.out⟩
end Go.Proofs.YtbebgobboccjcaaGreatDoor
namespace Go.Proofs.YtbebgobboccjcaaGreatDoor
open Go.RowKit Kit
set_option linter.unusedVariables false

def decL (n : Nat) : List Int := if n < 10 then [((48 + n : Nat) : Int)] else [((48 + n / 10 : Nat) : Int), ((48 + n % 10 : Nat) : Int)]
def decS (n : Nat) : ByteArray := strOf (decL n)
def DecAt (n u : Nat) (zs : List Int) : Prop := (u = n ∧ zs = []) ∨ (u = n / 10 ∧ zs = [((48 + n % 10 : Nat) : Int)]) ∨ (10 ≤ n ∧ u = 0 ∧ zs = [((48 + n / 10 : Nat) : Int), ((48 + n % 10 : Nat) : Int)])
theorem DecAt.step {n u : Nat} {zs : List Int} (h : DecAt n u zs) (hn : n < 100) (hu : 0 < u ∨ zs = []) : DecAt n (u / 10) (((48 + u % 10 : Nat) : Int) :: zs) := by
 rcases h with ⟨rfl, rfl⟩ | ⟨rfl, rfl⟩ | ⟨h1, rfl, rfl⟩
 · exact .inr (.inl ⟨rfl, rfl⟩)
 · rcases hu with hu | hu
   · refine .inr (.inr ⟨by omega, by omega, ?_⟩)
     rw [Nat.mod_eq_of_lt (show n / 10 < 10 by omega)]
   · cases hu
 · rcases hu with hu | hu
   · omega
   · cases hu
theorem DecAt.done {n u : Nat} {zs : List Int} (h : DecAt n u zs) (hn : n < 100) (hu : ¬ 0 < u) (hz : zs ≠ []) : zs = decL n := by
 unfold decL
 rcases h with ⟨rfl, rfl⟩ | ⟨rfl, rfl⟩ | ⟨h1, rfl, rfl⟩
 · exact absurd rfl hz
 · rw [if_pos (by omega), Nat.mod_eq_of_lt (show n < 10 by omega)]
 · rw [if_neg (by omega)]
theorem DecAt.len {n u : Nat} {zs : List Int} (h : DecAt n u zs) : zs.length ≤ 2 := by
 rcases h with ⟨rfl, rfl⟩ | ⟨rfl, rfl⟩ | ⟨h1, rfl, rfl⟩ <;> simp
def slLen : Value → Nat
 | .slice _ n _ => n
 | _ => 0
end Go.Proofs.YtbebgobboccjcaaGreatDoor
namespace Go.Proofs.YtbebgobboccjcaaGreatDoor
open Go.RowKit Kit
set_option linter.unusedVariables false

theorem pre_flt {w : World} {g : Nat} {op path : ByteArray} {c : Int} (h : w.heap[g]? = some (.cells #[.string op, .string path, .iface 80 (.int .i64 c)] 89)) (h1 : op.size ≤ 9223372036854775807) (h2 : path.size ≤ 9223372036854775807) :
 Pre w 2 (.iface 85 (.pointer (some ⟨g, 0, none⟩))) [(85, .pointer (some ⟨g, 0, none⟩), [(op, path)]), (80, .int .i64 c, [])] := by
 refine .inr (.inr ⟨g, op, path, .iface 80 (.int .i64 c), [(80, .int .i64 c, [])], rfl, ?_, ?_, ?_, ⟨h1, h2⟩, by simp, .inr (.inl ⟨c, rfl, rfl⟩), rfl⟩) <;> simp [World.cell?, h]
theorem hit_fault (k c : Int) (g : Nat) (op path : ByteArray) : hit k [(85, .pointer (some ⟨g, 0, none⟩), [(op, path)]), (80, .int .i64 c, [])] = (c == k) := by
 rw [hit_skip k 85 _ _ (by decide), hit_num]
set_option maxHeartbeats 1000000 in
theorem code_fault (n : Nat) (w : World) (g : Nat) (op path : ByteArray) (h1 : 1 ≤ n) (h19 : n ≤ 19) (h : w.heap[g]? = some (.cells #[.string op, .string path, .iface 80 (.int .i64 n)] 89)) (hop : op.size ≤ 9223372036854775807) (hpath : path.size ≤ 9223372036854775807) :
 Calls Tryz.prog 25 #[.iface 85 (.pointer (some ⟨g, 0, none⟩))] w fun e w' => e = .returned (.int .i64 n) ∧ Below w.heap.size w w' := by
 have HP : Hid (Pre w 2 (.iface 85 (.pointer (some ⟨g, 0, none⟩))) [(85, .pointer (some ⟨g, 0, none⟩), [(op, path)]), (80, .int .i64 n, [])]) := pre_flt h hop hpath
 have HI : Hid (∀ (k : Int) (w1 : World), Below w.heap.size w w1 → Calls Tryz.prog 47 #[.iface 85 (.pointer (some ⟨g, 0, none⟩)), .iface 80 (.int .i64 k)] w1 fun e w' => e = .returned (.bool ((n : Int) == k)) ∧ Below w1.heap.size w1 w') := fun k w1 hb => by
  have := is_any k 2 _ _ w1 (HP.out.below hb)
  rw [hit_fault] at this
  exact this
 clear h hop hpath HP
 go_enter Tryz.func25, Tryz.ntmps25
 go_wp2
 go_loopw [3] (fun i wr => ∃ k : Nat, 1 ≤ k ∧ k ≤ n ∧ i = .int .i64 k ∧ Hid (Below w.heap.size w wr)) (fun i _ => 20 - (intOf i).toNat)
 case atStart => exact ⟨1, by omega, by omega, rfl, Below.refl _ _⟩
 case round =>
  obtain ⟨k, hk1, hk, rfl, HB⟩ := hrel
  by_cases hkn : k = n
  · subst hkn
    have hbb : (((k : Nat) : Int) == (k : Int)) = true := beq_self_eq_true _
    go_wp2_with fail
    go_at_call 47
    refine (HI.out _ _ HB.out).mono ?_
    rintro e w' ⟨rfl, hw⟩
    have HB2 : Hid (Below w.heap.size w w') := bel2e HB.out hw
    clear hw HI HB
    go_wp2
    go_ret
    exact ⟨rfl, HB2.out⟩
  · have hne : ((n : Int) == (k : Int)) = false := beq_eq_false_iff_ne.2 (by omega)
    go_wp2_with fail
    go_at_call 47
    refine (HI.out _ _ HB.out).mono ?_
    rintro e w' ⟨rfl, hw⟩
    have HB2 : Hid (Below w.heap.size w w') := bel2e HB.out hw
    clear hw HI HB
    go_wp2
    go_round
    case rel => exact ⟨k + 1, by omega, by omega, by go_num, HB2⟩
    case measure => simp [intOf]; omega

def Tied (w : World) : Prop := w.cell? ⟨0, 0, none⟩ = some (.iface 159 (.agg #[.pointer (some ⟨4, 42, none⟩)]))
theorem tied_below {w w' : World} (h : Tied w) (hb : Below w.heap.size w w') : Tied w' := cell_old hb h
theorem first_fault (c : Int) (g : Nat) (op path : ByteArray) : firstOf 85 [(85, .pointer (some ⟨g, 0, none⟩), [(op, path)]), (80, .int .i64 c, [])] = some (.pointer (some ⟨g, 0, none⟩)) := firstOf_hit _ _ _ _
theorem str_self (a : ByteArray) : (a.toList == a.toList) = true := beq_self_eq_true _
set_option maxRecDepth 4000 in
set_option maxHeartbeats 4000000 in
theorem ais_fault (n : Nat) (w : World) (g : Nat) (op path : ByteArray) (hg : Tied w) (h1 : 1 ≤ n) (h19 : n ≤ 19) (h : w.heap[g]? = some (.cells #[.string op, .string path, .iface 80 (.int .i64 n)] 89)) (hop : op.size ≤ 9223372036854775807) (hpath : path.size ≤ 9223372036854775807) :
 Calls Tryz.prog 19 #[.iface 85 (.pointer (some ⟨g, 0, none⟩)), .int .i64 n, .string op, .string path] w fun e w' => e = .returned (.bool true) ∧ Below w.heap.size w w' := by
 have hgl : g < w.heap.size := (Array.getElem?_eq_some_iff.1 h).1
 have HC : Hid (Calls Tryz.prog 25 _ _ _) := code_fault n w g op path h1 h19 h hop hpath
 have HA : Hid (∀ w1, Below w.heap.size w w1 → Calls Tryz.prog 43 #[.iface 85 (.pointer (some ⟨g, 0, none⟩)), .iface 87 (.pointer (some ⟨w1.heap.size, 0, none⟩))] (w1.alloc (.cells #[.pointer none] 85)) fun e w' => e = .returned (.bool true) ∧
  w'.cell? ⟨w1.heap.size, 0, none⟩ = some (.pointer (some ⟨g, 0, none⟩)) ∧ w'.cell? ⟨g, 0, none⟩ = some (.string op) ∧ w'.cell? ⟨g, 1, none⟩ = some (.string path) ∧ Hid (Below w.heap.size w w')) := fun w1 hb => by
  have hb2 : Below w1.heap.size w1 (w1.alloc (.cells #[.pointer none] 85)) := (Below.refl _ _).alloc (Nat.le_refl _) _
  have hb3 := bel2e hb hb2
  have hx := A0.as_any 2 _ _ (w1.alloc (.cells #[.pointer none] 85)) ((pre_flt h hop hpath).below hb3) ⟨w1.heap.size, 0, none⟩ (.pointer none) (by simp) (by simp only [World.frozen?, (MapKept.heap_alloc w1 _).1]; rfl) (tied_below hg hb3)
  rw [first_fault] at hx
  refine hx.mono ?_
  rintro e w' ⟨rfl, w2, k1, rfl⟩
  have hbl : w2.heap[g]? = w.heap[g]? := ((k1.block g (Nat.lt_of_lt_of_le hgl hb3.size)).trans (hb3.block g hgl))
  have hs : w1.heap.size < w2.heap.size := by have := k1.size; simp at this; omega
  have hne : g ≠ w1.heap.size := by have := hb.size; omega
  have hc0 : w2.cell? ⟨w1.heap.size, 0, none⟩ = some (.pointer none) := cell_old k1 (by simp)
  have hq : (w2.setCell ⟨w1.heap.size, 0, none⟩ (.pointer (some ⟨g, 0, none⟩))).heap[g]? = some (.cells #[.string op, .string path, .iface 80 (.int .i64 n)] 89) := (Below.heap_setCell w2 ⟨w1.heap.size, 0, none⟩ _ g hne).trans (hbl.trans h)
  refine ⟨rfl, ?_, ?_, ?_, ?_⟩
  · exact World.cell?_setCell_same' _ _ _ (by rw [hc0]; rfl)
  · simp [World.cell?, hq]
  · simp [World.cell?, hq]
  · exact (bel2e hb3 k1).setCell (by have := hb.size; simpa using this) _
 have hss1 := str_self op
 have hss2 := str_self path
 have hnz : ((n : Int) == 0) = false := beq_eq_false_iff_ne.2 (by omega)
 have hnn : ((n : Int) == (n : Int)) = true := beq_self_eq_true _
 clear h hop hpath hg h19
 go_enter Tryz.func19, Tryz.ntmps19
 go_wp2_with fail
 go_at_call 25
 refine HC.out.mono ?_
 rintro e w1 ⟨rfl, hw⟩
 have HB : Hid (Below w.heap.size w w1) := hw
 clear hw HC
 go_wp2_with fail
 go_at_call 43
 refine (HA.out _ HB.out).mono ?_
 rintro e w2 ⟨rfl, c0, c1, c2, HB2⟩
 clear HA HB
 go_wp2
 go_ret
 exact ⟨rfl, HB2.out⟩
theorem ais_nil (op path : ByteArray) (w : World) : Calls Tryz.prog 19 #[.nilIface, .int .i64 0, .string op, .string path] w fun e w' => e = .returned (.bool true) ∧ w' = w := by
 have HC : Hid (∀ w, Calls Tryz.prog 25 #[.nilIface] w fun e w' => e = .returned (.int .i64 0) ∧ w' = w) := code_nil
 go_enter Tryz.func19, Tryz.ntmps19
 go_wp2_with fail
 go_at_call 25
 refine (HC.out _).mono ?_
 rintro e w1 ⟨rfl, rfl⟩
 go_wp2
 go_ret
 exact ⟨rfl, rfl⟩
end Go.Proofs.YtbebgobboccjcaaGreatDoor
namespace Go.Proofs.YtbebgobboccjcaaGreatDoor
open Go.ChangeShapes Go.WideShapes Go.ChangeAt Go.RowKit

def laid1 : List (String × DataW Unit) := Rows.treeMovesRow.laid
def tabs1 : List (String × DataW Unit) := laid1.filter fun x => x.2.handleName?.isNone
def great1 : List String := tabs1.map (·.1)
theorem own : ownKnob Tryz.prog.godebug = none := by kernel_rfl
theorem laidOut : laidOutB Tryz.prog = true := by kernel_rfl
noncomputable def startW (os : Os) : World := (World.doorLaid Tryz.prog 26 os).layVars Tryz.prog (tabs1.filter fun x => great1.contains x.1)
theorem startW_os (os : Os) : (startW os).os = os := World.layVars_os _ _ _
theorem gET : Tryz.prog.globalNamed "errors.errorType" = some 0 := by kernel_rfl
theorem oneRow : ((List.range 254).filter fun t => Tryz.prog.rowNamed t [101, 114, 114, 111, 114]) = [42] := by kernel_rfl
theorem nTypes : Tryz.prog.types.size = 254 := by kernel_rfl
set_option maxRecDepth 100000 in
theorem door_met (os : Os) (args : Array Value) : laidMetH Tryz.prog laid1 ((startW os).forCall (fun _ _ => 0) ⟨#[], args, []⟩).memory :=
 laidMetH_of_parts (laidMet_layVars (w0 := World.doorLaid Tryz.prog 26 os) great1 [] (by simp [World.memory, World.forCall, Input.heap]; rfl) (by kernel_rfl) (by kernel_rfl) (by
  have e : ((laid1.filter fun x => x.2.handleName?.isNone).filter fun x => !great1.contains x.1) = [] := by kernel_rfl
  rw [e]
  exact LaidIn.none)) (by kernel_rfl)
theorem tied_of_laid {W : World} (h : laidMetH Tryz.prog laid1 W) : Tied W := by
 have h' := (laidMetH_iff.1 h).2
 have hm0 : ("errors.errorType", Rows.laid_errors_errorType) ∈ laid1.filter fun x => x.2.handleName?.isSome := by
  rw [show (laid1.filter fun x => x.2.handleName?.isSome) = [("errors.errorType", Rows.laid_errors_errorType)] by kernel_rfl]
  exact List.mem_singleton.2 rfl
 obtain ⟨name, u, ty, e1, e2, e3, e4, e5⟩ := h' _ hm0
 have en : name = [101, 114, 114, 111, 114] := (Option.some.inj e1).symm
 subst en
 obtain rfl : u = 159 := Option.some.inj (e2.symm.trans (by kernel_rfl))
 have hm : ty ∈ (List.range 254).filter fun t => Tryz.prog.rowNamed t [101, 114, 114, 111, 114] := List.mem_filter.2 ⟨List.mem_range.2 (by rw [← nTypes]; exact e3), e4⟩
 rw [oneRow] at hm
 obtain rfl := List.mem_singleton.1 hm
 have hh : typeHandle Tryz.prog 42 = .pointer (some ⟨4, 42, none⟩) := by kernel_rfl
 rw [hh] at e5
 unfold Tied
 simpa using World.var?_cell gET e5 0
end Go.Proofs.YtbebgobboccjcaaGreatDoor
namespace Go.Proofs.YtbebgobboccjcaaGreatDoor
open Go.RowKit Kit
set_option linter.unusedVariables false

theorem index_byte (c : UInt8) : ∀ s : List UInt8, Lib.index s [c] = Lib.indexByte s c := by
 intro s
 induction s with
 | nil => rfl
 | cons b l ih =>
   unfold Lib.index Lib.indexByte
   rw [ih]
   by_cases h : b = c
   · subst h; simp [List.isPrefixOf]
   · have h2 : (c == b) = false := beq_eq_false_iff_ne.2 (fun e => h e.symm)
     have h3 : (b == c) = false := beq_eq_false_iff_ne.2 h
     simp [List.isPrefixOf, h2, h3]
set_option maxHeartbeats 1000000 in
theorem sindex_any (x : ByteArray) (w : World) : Calls Tryz.prog 151 #[.string x, .string ⟨#[47]⟩] w fun e w' => e = .returned (.int .i64 (Lib.indexB x ⟨#[47]⟩)) ∧ w' = w := by
 have HX : Hid (Calls Tryz.prog 160 #[.string x, .string ⟨#[47]⟩] w fun e w' => e = .returned (.int .i64 (Lib.indexB x ⟨#[47]⟩)) ∧ w' = w) := by
  have h := Any.stringslite_Index_one Tryz.lays219 x 47 w
  have e : Lib.indexB x ⟨#[47]⟩ = Lib.indexByte x.data.toList 47 := index_byte 47 x.data.toList
  show Calls _ _ _ _ _
  rw [e]
  exact h
 go_enter Tryz.func151, Tryz.ntmps151
 go_wp2_with fail
 go_at_call 160
 refine HX.out.mono ?_
 rintro e1 w1 ⟨rfl, rfl⟩
 clear HX
 go_wp2
 go_ret
 exact ⟨rfl, rfl⟩
def cutB (s : ByteArray) : List ByteArray := (cutL 47 (bytesOf s)).map strOf
set_option maxHeartbeats 1000000 in
theorem ssplit_any (s : ByteArray) (w : World) (hs : s.size ≤ 1000) : Calls Tryz.prog 115 #[.string s, .string ⟨#[47]⟩] w fun e w' =>
 e = .returned (.slice (some ⟨w.heap.size, 0, none⟩) (cutB s).length (cutB s).length) ∧ w' = w.alloc (.cells (strs (cutB s)).toArray 9) := by
 have hle := Lib.countB_le ⟨#[47]⟩ (by decide) s.size s (Nat.le_refl _)
 have hlen := Lib.splitB_all ⟨#[47]⟩ (by decide) 0 _ s rfl
 have hcut : Lib.splitB ⟨#[47]⟩ 0 (Lib.countB s ⟨#[47]⟩) s = cutB s := split_cut s.size s (Nat.le_refl _)
 have hC : Calls Tryz.prog 150 #[.string s, .string ⟨#[47]⟩] w fun e w' => e = .returned (.int .i64 (Lib.countB s ⟨#[47]⟩)) ∧ w' = w := by
  have h := Any.strings_Count_one Tryz.lays138 s 47 w
  have e : Lib.countB s ⟨#[47]⟩ = Lib.countByte s.data.toList 47 := Lib.count_one 47 s.data.toList
  rw [e]
  exact h
 have HG : Hid (Calls Tryz.prog 137 #[.string s, .string ⟨#[47]⟩, .int .i64 0, .int .i64 (-1)] w fun e w' =>
  e = .returned (.slice (some ⟨w.heap.size, 0, none⟩) (cutB s).length (cutB s).length) ∧ w' = w.alloc (.cells (strs (cutB s)).toArray 9)) := by
  have h := Any.strings_genSplit_core Tryz.lays221 (by kernel_rfl) s ⟨#[47]⟩ 0 (-1) (Lib.countB s ⟨#[47]⟩ + 1) w (by omega) (by decide) (Nat.zero_le _) (fun x c _ => sindex_any x _) hC (by decide) (by decide) (by rw [if_pos (by decide)]; omega)
  rw [Nat.add_sub_cancel, hlen] at h
  have e2 : Lib.cellsOf (Lib.splitB ⟨#[47]⟩ 0 (Lib.countB s ⟨#[47]⟩) s) (Lib.countB s ⟨#[47]⟩ + 1) = (strs (cutB s)).toArray := by
   rw [← hlen, Lib.cellsOf_full, hcut]; rfl
  rw [e2] at h
  rw [hcut] at hlen
  rw [hlen]
  exact h
 clear hC hcut hlen hle hs
 go_enter Tryz.func115, Tryz.ntmps115
 go_wp2_with fail
 go_at_call 137
 refine HG.out.mono ?_
 rintro e1 w1 ⟨rfl, rfl⟩
 clear HG
 go_wp2
 go_ret
 exact ⟨rfl, rfl⟩
def piecesB (s : ByteArray) : List ByteArray := if s = ⟨#[47]⟩ then [] else partsB s
theorem sees_none (w : World) : Sees w (.slice none 0 0) (strs []) := ⟨none, 0, rfl, by simp [strs], by simp, fun _ => rfl, fun h => by simp [strs] at h⟩
theorem cutL_num (c : Int) : ∀ l : List Int, (cutL c l).length ≤ l.length + 1
 | [] => by simp [cutL]
 | x :: r => by
   have ih := cutL_num c r
   rw [cutL]
   split
   · simp; omega
   · cases h : cutL c r with
     | nil => simp
     | cons p q => rw [h] at ih; simp at ih ⊢; omega
theorem sees_cells (w : World) (l : List ByteArray) (hl : l.length ≤ maxLen) (t : TypeId) : Sees (w.alloc (.cells (strs l).toArray t)) (.slice (some ⟨w.heap.size, 0, none⟩) l.length l.length) (strs l) := by
 have h := (rowV_lit w 0 t (strs l) (Nat.zero_le _) (by rw [strs_len]; exact hl)).sees
 rw [strs_len] at h
 exact h
set_option maxHeartbeats 1000000 in
theorem pieces_any (s : ByteArray) (w : World) (hs : s.size ≤ 200) (h0 : 0 < s.size) : Calls Tryz.prog 77 #[.string s] w fun e w' => ∃ r, e = .returned r ∧ Sees w' r (strs (piecesB s)) ∧ Below w.heap.size w w' := by
 by_cases h1 : s = ⟨#[47]⟩
 · have HP : Hid (piecesB s = []) := by show _ = _; unfold piecesB; rw [if_pos h1]
   subst h1
   clear hs h0
   go_enter Tryz.func77, Tryz.ntmps77
   go_wp2
   go_ret
   rw [HP.out]
   exact ⟨_, rfl, sees_none _, Below.refl _ _⟩
 · have HP : Hid (piecesB s = cutB (s.extract 1 s.size)) := by show _ = _; unfold piecesB; rw [if_neg h1]; rfl
   have q1 : (s.toList == [47]) = false := beq_eq_false_iff_ne.2 (by rw [Ne, toList_eq_iff]; exact h1)
   have HX : Hid (Calls Tryz.prog 115 _ _ _) := ssplit_any (s.extract 1 s.size) w (by rw [ByteArray.size_extract]; omega)
   have hz : (s.extract 1 s.size).size ≤ 200 := by rw [ByteArray.size_extract]; omega
   have HL : Hid ((cutB (s.extract 1 s.size)).length ≤ maxLen) := by
    have := cutL_num 47 (bytesOf (s.extract 1 s.size))
    rw [bytesOf_len] at this
    show _ ≤ _
    unfold cutB maxLen
    rw [List.length_map]
    omega
   have i1 : (1 : Int) ≤ (s.size : Int) := by omega
   have i2 : (s.size : Int) ≤ 200 := by omega
   clear h1 hs h0 hz
   go_enter Tryz.func77, Tryz.ntmps77
   go_wp2_with fail
   go_at_call 115
   refine HX.out.mono ?_
   rintro e1 w1 ⟨rfl, rfl⟩
   clear HX
   go_wp2
   go_ret
   rw [HP.out]
   exact ⟨_, rfl, sees_cells w _ HL.out _, (Below.refl _ _).alloc (Nat.le_refl _) _⟩
end Go.Proofs.YtbebgobboccjcaaGreatDoor
namespace Go.Proofs.YtbebgobboccjcaaGreatDoor
open Go.RowKit Kit
set_option linter.unusedVariables false

def errV (c : Int) : Value := if c = 0 then .nilIface else .iface 80 (.int .i64 c)
abbrev Small : Type := { q : ByteArray // q.size ≤ maxLen }
def encS (x : Small) : Value := .string x.1
theorem smalls : ∀ l : List ByteArray, (∀ q ∈ l, q.size ≤ maxLen) → ∃ zs : List Small, zs.map (fun x => x.1) = l
 | [], _ => ⟨[], rfl⟩
 | a :: r, h => by
   obtain ⟨zs, hz⟩ := smalls r (fun q hq => h q (by simp [hq]))
   exact ⟨⟨a, h a (by simp)⟩ :: zs, by rw [List.map_cons, hz]⟩
theorem drewB {B : Nat} {a w : World} (h : Below B a w) (q : Nat) : Below B a (w.drewN q) := ⟨h.os, h.tape, h.output, h.size, h.block⟩
theorem enters39 : ∀ args w, (callFunc 113 args).run Tryz.prog w = .ok (.enter 113 args) w := enters_of Tryz.func113 (by kernel_rfl) rfl
theorem enters40 : ∀ args w, (callFunc 114 args).run Tryz.prog w = .ok (.enter 114 args) w := enters_of Tryz.func114 (by kernel_rfl) rfl
theorem cf_any (g : Nat) (p : ByteArray → Bool) (eg : ∀ args w, (callFunc g args).run Tryz.prog w = .ok (.enter g args) w) (hp : ∀ q w, q.size ≤ maxLen → Calls Tryz.prog g #[.string q] w fun e w' => e = .returned (.bool (p q)) ∧ w' = w)
 (v : Value) (l : List ByteArray) (w : World) (hv : Sees w v (strs l)) (hl : ∀ q ∈ l, q.size ≤ maxLen) :
 Calls Tryz.prog 112 #[v, .func (.func g) #[] #[]] w fun e w' => e = .returned (.bool (l.any p)) ∧ Below w.heap.size w w' := by
 haveI : Inhabited Small := ⟨⟨⟨#[]⟩, Nat.zero_le _⟩⟩
 obtain ⟨ao, cap, rfl, h1, h2, h3, h4⟩ := hv
 rw [strs_len] at *
 cases l with
 | nil =>
   refine (AnyE.slices_ContainsFunc_empty Tryz.laysH8 ao cap (.func (.func g) #[] #[]) w).mono ?_
   rintro e w' ⟨rfl, rfl⟩
   exact ⟨rfl, Below.refl _ _⟩
 | cons a r =>
   obtain ⟨b, off, rfl, hb, hc⟩ := h4 (by simp)
   obtain ⟨zs, hzm⟩ := smalls (a :: r) hl
   have hzl : zs.length = (a :: r).length := by rw [← hzm, List.length_map]
   have hz1 : ∀ j, j < zs.length → (zs[j]!).1 = (a :: r).getD j ⟨#[]⟩ := by
    intro j hj
    rw [getElem!_pos zs j hj, ← hzm, List.getD, List.getElem?_map, List.getElem?_eq_getElem hj]
    rfl
   have hany : (zs.take (a :: r).length).any (fun x => p x.1) = (a :: r).any p := by
    rw [← hzl, List.take_length, ← hzm, List.any_map]; rfl
   have h := AnyE.slices_ContainsFunc Tryz.laysH8 encS (fun x => p x.1) g #[] eg b off (a :: r).length cap zs w
    (fun W x _ => (hp x.1 W x.2).mono fun e w' ⟨he, hw⟩ => ⟨he, 0, hw⟩) (by omega) (by unfold maxLen at h2; omega)
    (fun j hj => by
      have hj2 : j < (a :: r).length := by rw [← hzl]; exact hj
      rw [hc j _ (strs_at _ j hj2)]
      unfold encS
      rw [hz1 j hj])
   rw [hany] at h
   refine h.mono ?_
   rintro e w' ⟨rfl, q, rfl⟩
   exact ⟨rfl, drewB (Below.refl _ _) q⟩
def codeB (l : List ByteArray) : Int := if l.any (fun q => !okB q) = true then 2 else if l.any longB = true then 3 else if 6 < l.length then 4 else 0
theorem split_code2 (s : ByteArray) (h1 : ¬ 200 < s.size) (h2 : (bytesOf s).getD 0 0 = 47) : (splitB s).2 = codeB (piecesB s) := by
 unfold splitB codeB piecesB
 by_cases e : s = ⟨#[47]⟩
 · rw [if_pos e, if_pos e]; rfl
 · have e2 : ¬ s = ⟨#[]⟩ := fun h => by subst h; simp [bytesOf] at h2
   rw [if_neg e, if_neg e, if_neg (by simp only [not_or]; exact ⟨e2, h1, fun h => h h2⟩)]
   have ea : ((partsB s).all okB = false) ↔ ((partsB s).any (fun q => !okB q) = true) := by
    rw [List.all_eq_false, List.any_eq_true]
    constructor
    · rintro ⟨x, hx, h⟩; exact ⟨x, hx, by simpa using h⟩
    · rintro ⟨x, hx, h⟩; exact ⟨x, hx, by simpa using h⟩
   by_cases h3 : (partsB s).all okB = false
   · rw [if_pos h3, if_pos (ea.1 h3)]
   · rw [if_neg h3, if_neg (fun h => h3 (ea.2 h))]
     by_cases h4 : (partsB s).any longB = true
     · rw [if_pos h4, if_pos h4]
     · rw [if_neg h4, if_neg h4]
       by_cases h5 : 6 < (partsB s).length
       · rw [if_pos h5, if_pos h5]
       · rw [if_neg h5, if_neg h5]
theorem pieces_small (s : ByteArray) (hs : s.size ≤ 200) : ∀ q ∈ piecesB s, q.size ≤ maxLen := by
 intro q hq
 unfold piecesB at hq
 split at hq
 · simp at hq
 · unfold partsB at hq
   obtain ⟨p, hp, rfl⟩ := List.mem_map.1 hq
   have := cutL_len 47 _ p hp
   rw [bytesOf_len, ByteArray.size_extract] at this
   have e : (strOf p).size = p.length := by simp [strOf, ByteArray.size]
   rw [e]
   unfold maxLen
   omega
theorem pieces_len (s : ByteArray) (hs : s.size ≤ 200) : (piecesB s).length ≤ 201 := by
 unfold piecesB
 split
 · simp
 · unfold partsB
   rw [List.length_map]
   have := cutL_num 47 (bytesOf (s.extract 1 s.size))
   rw [bytesOf_len, ByteArray.size_extract] at this
   omega
theorem has_slash (s : ByteArray) : Lib.hasPrefix s.data.toList [47] = decide ((bytesOf s).getD 0 0 = 47) := by
 unfold Lib.hasPrefix bytesOf
 cases s.data.toList with
 | nil => simp
 | cons a t =>
   rw [Bool.eq_iff_iff]
   simp only [List.isPrefixOf, Bool.and_true, beq_iff_eq, List.map_cons, List.getD_cons_zero, decide_eq_true_eq]
   constructor
   · intro h; rw [← h]; rfl
   · intro h; apply UInt8.toNat_inj.1; show 47 = a.toNat; omega
theorem shas_any (s : ByteArray) (w : World) : Calls Tryz.prog 111 #[.string s, .string ⟨#[47]⟩] w fun e w' => e = .returned (.bool (decide ((bytesOf s).getD 0 0 = 47))) ∧ w' = w := by
 have h := Any.strings_HasPrefix Tryz.lays99 s ⟨#[47]⟩ w
 rw [← has_slash]
 exact h
theorem out_code (s : ByteArray) (h : 200 < s.size ∨ ¬ (bytesOf s).getD 0 0 = 47) : (splitB s).2 = 2 := by
 unfold splitB
 have e : ¬ s = ⟨#[47]⟩ := fun e => by
  subst e
  rcases h with h | h
  · exact absurd h (by decide)
  · exact h (by decide)
 rw [if_neg e, if_pos (by rcases h with h | h; exact .inr (.inl h); exact .inr (.inr h))]
set_option maxRecDepth 4000 in
set_option maxHeartbeats 4000000 in
theorem broken_any (s : ByteArray) (w : World) (hs : s.size ≤ maxLen) : Calls Tryz.prog 76 #[.string s] w fun e w' => e = .returned (errV (splitB s).2) ∧ Below w.heap.size w w' := by
 have hm : (s.size : Int) ≤ 9223372036854775807 := by unfold maxLen at hs; omega
 by_cases h1 : 200 < s.size
 · have HE : Hid (errV (splitB s).2 = .iface 80 (.int .i64 2)) := by show _ = _; rw [out_code s (.inl h1)]; rfl
   have i1 : (200 : Int) < (s.size : Int) := by omega
   clear hs h1
   go_enter Tryz.func76, Tryz.ntmps76
   go_wp2
   go_ret
   exact ⟨by rw [HE.out]; rfl, Below.refl _ _⟩
 · have i1 : ¬ (200 : Int) < (s.size : Int) := by omega
   have hs2 : s.size ≤ 200 := by omega
   by_cases h2 : (bytesOf s).getD 0 0 = 47
   · have h0 : 0 < s.size := by
      rw [← bytesOf_len]
      cases hb : bytesOf s with
      | nil => rw [hb] at h2; simp at h2
      | cons a t => simp
     have HH : Hid (Calls Tryz.prog 111 _ _ _) := shas_any s w
     rw [decide_eq_true h2] at HH
     have HP : Hid (∀ w, Calls Tryz.prog 77 #[.string s] w fun e w' => ∃ r, e = .returned r ∧ Sees w' r (strs (piecesB s)) ∧ Below w.heap.size w w') := fun w => pieces_any s w hs2 h0
     have HC := split_code2 s h1 h2
     have HS : Hid ((∀ q ∈ piecesB s, q.size ≤ maxLen) ∧ (piecesB s).length ≤ 201) := ⟨pieces_small s hs2, pieces_len s hs2⟩
     rw [HC]
     generalize piecesB s = l at HP HS
     have HC : Hid (codeB l = if l.any (fun q => !okB q) = true then 2 else if l.any longB = true then 3 else if 6 < l.length then 4 else 0) := rfl
     obtain ⟨b1, hb1⟩ : ∃ b, l.any (fun q => !okB q) = b := ⟨_, rfl⟩
     obtain ⟨b2, hb2⟩ : ∃ b, l.any longB = b := ⟨_, rfl⟩
     have HN : Hid (∀ v w, Sees w v (strs l) → Calls Tryz.prog 112 #[v, .func (.func 113) #[] #[]] w fun e w' => e = .returned (.bool b1) ∧ Below w.heap.size w w') := fun v w h => by
      rw [← hb1]; exact cf_any 113 (fun q => !okB q) enters39 noName_any v l w h HS.out.1
     have HL : Hid (∀ v w, Sees w v (strs l) → Calls Tryz.prog 112 #[v, .func (.func 114) #[] #[]] w fun e w' => e = .returned (.bool b2) ∧ Below w.heap.size w w') := fun v w h => by
      rw [← hb2]; exact cf_any 114 longB enters40 long_any v l w h HS.out.1
     rw [hb1, hb2] at HC
     clear hb1 hb2 h1 h2 h0 hs hs2
     go_enter Tryz.func76, Tryz.ntmps76
     go_wp2_with fail
     go_at_call 111
     refine HH.out.mono ?_
     rintro e1 w1 ⟨rfl, rfl⟩
     clear HH
     go_wp2_with fail
     go_at_call 77
     refine (HP.out _).mono ?_
     rintro e2 w2 ⟨r2, rfl, hr2, hb2⟩
     have H2 : Hid (Sees w2 r2 (strs l) ∧ Below w1.heap.size w1 w2) := ⟨hr2, hb2⟩
     clear hr2 hb2
     go_wp2_with fail
     go_at_call 112
     refine (HN.out _ _ H2.out.1).mono ?_
     rintro e3 w3 ⟨rfl, hb3⟩
     have H3 : Hid (Below w1.heap.size w1 w3) := bel2v H2.out.2 hb3
     clear hb3 H2 HN
     cases b1 with
     | true =>
       clear HP HL HS
       go_wp2
       go_ret
       exact ⟨by rw [HC.out]; rfl, H3.out⟩
     | false =>
       go_wp2_with fail
       go_at_call 77
       refine (HP.out _).mono ?_
       rintro e4 w4 ⟨r4, rfl, hr4, hb4⟩
       have H4 : Hid (Sees w4 r4 (strs l) ∧ Below w1.heap.size w1 w4) := ⟨hr4, bel2v H3.out hb4⟩
       clear hr4 hb4 H3
       go_wp2_with fail
       go_at_call 112
       refine (HL.out _ _ H4.out.1).mono ?_
       rintro e5 w5 ⟨rfl, hb5⟩
       have H5 : Hid (Below w1.heap.size w1 w5) := bel2v H4.out.2 hb5
       clear hb5 H4 HL
       cases b2 with
       | true =>
         clear HP HS
         go_wp2
         go_ret
         exact ⟨by rw [HC.out]; rfl, H5.out⟩
       | false =>
         go_wp2_with fail
         go_at_call 77
         refine (HP.out _).mono ?_
         rintro e6 w6 ⟨r6, rfl, hr6, hb6⟩
         have H6 : Hid (Below w1.heap.size w1 w6) := bel2v H5.out hb6
         obtain ⟨ao, cap, rfl, _, _, _, _⟩ := hr6
         clear hb6 H5 HP
         rw [strs_len]
         have hl : (l.length : Int) ≤ 201 := by have := HS.out.2; omega
         by_cases h6 : 6 < l.length
         · have HF : Hid (errV (codeB l) = .iface 80 (.int .i64 4)) := by show _ = _; rw [HC.out]; simp [h6]; rfl
           have i6 : (6 : Int) < (l.length : Int) := by omega
           clear HC HS h6
           go_wp2
           go_ret
           exact ⟨by rw [HF.out]; rfl, H6.out⟩
         · have HF : Hid (errV (codeB l) = .nilIface) := by show _ = _; rw [HC.out]; simp [h6]; rfl
           have i6 : ¬ (6 : Int) < (l.length : Int) := by omega
           clear HC HS h6
           go_wp2
           go_ret
           exact ⟨by rw [HF.out]; rfl, H6.out⟩
   · have HE : Hid (errV (splitB s).2 = .iface 80 (.int .i64 2)) := by show _ = _; rw [out_code s (.inr h2)]; rfl
     have HH : Hid (Calls Tryz.prog 111 _ _ _) := shas_any s w
     rw [decide_eq_false h2] at HH
     clear hs h1 h2 hs2
     go_enter Tryz.func76, Tryz.ntmps76
     go_wp2_with fail
     go_at_call 111
     refine HH.out.mono ?_
     rintro e1 w1 ⟨rfl, rfl⟩
     clear HH
     go_wp2
     go_ret
     exact ⟨by rw [HE.out]; rfl, Below.refl _ _⟩
theorem split_okP (s : ByteArray) (h : (splitB s).2 = 0) : 0 < s.size ∧ s.size ≤ 200 ∧ (splitB s).1 = piecesB s := by
 by_cases h1 : 200 < s.size ∨ ¬ (bytesOf s).getD 0 0 = 47
 · rw [out_code s h1] at h; cases h
 · have h2 : ¬ 200 < s.size := fun h => h1 (.inl h)
   have h3 : (bytesOf s).getD 0 0 = 47 := Decidable.byContradiction fun h => h1 (.inr h)
   refine ⟨?_, by omega, ?_⟩
   · rw [← bytesOf_len]
     cases hb : bytesOf s with
     | nil => rw [hb] at h3; simp at h3
     | cons a t => simp
   · unfold splitB at h ⊢
     unfold piecesB
     split
     · rfl
     · rename_i e
       rw [if_neg e] at h
       split at h
       · cases h
       · split at h
         · cases h
         · split at h
           · cases h
           · split at h
             · cases h
             · rename_i a b c d
               rw [if_neg a, if_neg b, if_neg c, if_neg d]
set_option maxHeartbeats 1000000 in
theorem nsplit_any (s : ByteArray) (w : World) (hs : s.size ≤ maxLen) :
 Calls Tryz.prog 44 #[.string s] w fun e w' => ∃ r, e = .returned (.tuple #[r, errV (splitB s).2]) ∧ Sees w' r (strs (splitB s).1) ∧ Below w.heap.size w w' := by
 have HX : Hid (Calls Tryz.prog 76 _ _ _) := broken_any s w hs
 have cp := split_code s
 have ok := split_okP s
 obtain ⟨⟨a, c⟩, he⟩ : ∃ x, splitB s = x := ⟨_, rfl⟩
 rw [he] at HX cp ok ⊢
 simp only at HX cp ok ⊢
 clear hs he
 by_cases h0 : c = 0
 · obtain ⟨k1, k2, rfl⟩ := ok h0
   subst h0
   have HP : Hid (∀ w, Calls Tryz.prog 77 #[.string s] w fun e w' => ∃ r, e = .returned r ∧ Sees w' r (strs (piecesB s)) ∧ Below w.heap.size w w') := fun w => pieces_any s w k2 k1
   have e0 : errV 0 = .nilIface := rfl
   rw [e0] at HX ⊢
   clear cp ok k1 k2 e0
   go_enter Tryz.func44, Tryz.ntmps44
   go_wp2_with fail
   go_at_call 76
   refine HX.out.mono ?_
   rintro e1 w1 ⟨rfl, hb1⟩
   have H1 : Hid (Below w.heap.size w w1) := hb1
   clear hb1 HX
   go_wp2_with fail
   go_at_call 77
   refine (HP.out _).mono ?_
   rintro e2 w2 ⟨r2, rfl, hr2, hb2⟩
   have H2 : Hid (Sees w2 r2 (strs (piecesB s)) ∧ Below w.heap.size w w2) := ⟨hr2, bel2v H1.out hb2⟩
   clear hr2 hb2 HP H1
   go_wp2
   go_ret2
   exact ⟨r2, rfl, H2.out⟩
 · have ha : a = [] := (cp.resolve_left h0).2
   subst ha
   have HE : errV c = .iface 80 (.int .i64 c) := by unfold errV; rw [if_neg h0]
   rw [HE] at HX ⊢
   clear cp ok h0 HE
   go_enter Tryz.func44, Tryz.ntmps44
   go_wp2_with fail
   go_at_call 76
   refine HX.out.mono ?_
   rintro e1 w1 ⟨rfl, hb1⟩
   have H1 : Hid (Below w.heap.size w w1) := hb1
   clear hb1 HX
   go_wp2
   go_ret2
   exact ⟨_, rfl, sees_none _, H1.out⟩
end Go.Proofs.YtbebgobboccjcaaGreatDoor
namespace Go.Proofs.YtbebgobboccjcaaGreatDoor
open Go.RowKit Kit
set_option linter.unusedVariables false

theorem builderX : Builder.Extra Tryz.prog Tryz.lays156_ren :=
 { sizeBuilder := by kernel_rfl, liesBuilder := by kernel_rfl, t5 := Tryz.underlying5, a5 := Tryz.isAgg5, z5 := Tryz.sizeOf5, v5 := Tryz.zeroValue5, infoByte := by kernel_rfl, cellsByte := by kernel_rfl, sizeByte := by kernel_rfl, neB5 := by decide }
theorem join_len (ss : List ByteArray) : (Lib.join (ss.map (·.data.toList)) [47]).length ≤ tot ss := by
 have h := congrArg ByteArray.size (join_slash ss)
 rw [ByteArray.size_append] at h
 have e1 : (⟨(Lib.join (ss.map (·.data.toList)) [47]).toArray⟩ : ByteArray).size = (Lib.join (ss.map (·.data.toList)) [47]).length := by simp [ByteArray.size]
 have e2 : (⟨#[47]⟩ : ByteArray).size = 1 := rfl
 have e3 : (joinB ss).size ≤ tot ss + 1 := by
  unfold joinB
  split
  · rw [e2]; omega
  · have := joinTo_size ss ss.length (Nat.le_refl _)
    rw [List.take_length] at this
    omega
 omega
theorem sjoin_any (x : Value) (ss : List ByteArray) (w : World) (hx : Sees w x (strs ss)) (hb : tot ss ≤ 1000000) :
 Calls Tryz.prog 148 #[x, .string ⟨#[47]⟩] w fun e w' => e = .returned (.string ⟨(Lib.join (ss.map (·.data.toList)) [47]).toArray⟩) ∧ Below w.heap.size w w' := by
 obtain ⟨ao, cap, rfl, h1, h2, h3, h4⟩ := hx
 rw [strs_len] at *
 cases ss with
 | nil =>
   refine (Any.strings_Join_none Tryz.lays156 builderX ao cap ⟨#[47]⟩ w).mono ?_
   rintro e w' ⟨rfl, rfl⟩
   exact ⟨by simp [Lib.join], Below.refl _ _⟩
 | cons a r =>
   obtain ⟨b, off, rfl, hbk, hc⟩ := h4 (by simp)
   have hl := join_len (a :: r)
   have hn : (a :: r).length ≤ tot (a :: r) := by
    unfold tot
    have : ∀ l : List ByteArray, l.length ≤ (l.map fun s => s.size + 1).sum := by
     intro l
     induction l with
     | nil => simp
     | cons q t ih => simp only [List.map_cons, List.sum_cons, List.length_cons]; omega
    exact this _
   refine (Any.strings_Join Tryz.lays156 builderX b off cap (a :: r) ⟨#[47]⟩ w ?_ hbk (by omega) h1 (by show (Lib.join ((a :: r).map (·.data.toList)) [47]).length ≤ _; omega)).mono ?_
   · intro j y hy
     refine hc j _ ?_
     unfold strs
     rw [List.getElem?_map, hy]; rfl
   · rintro e w' ⟨rfl, hb⟩
     exact ⟨rfl, hb⟩
set_option maxHeartbeats 1000000 in
theorem njoin_any (x : Value) (ss : List ByteArray) (w : World) (hx : Sees w x (strs ss)) (hb : tot ss ≤ 1000000) :
 Calls Tryz.prog 130 #[x] w fun e w' => e = .returned (.string (joinB ss)) ∧ Below w.heap.size w w' := by
 have HX : Hid (Calls Tryz.prog 148 _ _ _) := sjoin_any x ss w hx hb
 have HJ : Hid (joinB ss = _) := join_slash ss
 have hl := join_len ss
 obtain ⟨j, hj⟩ : ∃ j : ByteArray, (⟨(Lib.join (ss.map (·.data.toList)) [47]).toArray⟩ : ByteArray) = j := ⟨_, rfl⟩
 have hz : j.size ≤ 1000000 := by rw [← hj]; simp [ByteArray.size]; omega
 rw [hj] at HX HJ
 have i1 : (j.size : Int) ≤ 1000000 := by omega
 clear hx hb hl hj
 go_enter Tryz.func130, Tryz.ntmps130
 go_wp2_with fail
 go_at_call 148
 refine HX.out.mono ?_
 rintro e1 w1 ⟨rfl, hb1⟩
 have H1 : Hid (Below w.heap.size w w1) := hb1
 clear HX hb1
 go_wp2
 go_ret
 exact ⟨by rw [HJ.out]; rfl, H1.out⟩
end Go.Proofs.YtbebgobboccjcaaGreatDoor
namespace Go.Proofs.YtbebgobboccjcaaGreatDoor
open Go.RowKit Kit
set_option linter.unusedVariables false

theorem keepP {w a b : World} {p : Addr} {x v : Value} {l : List ByteArray} (h : a.cell? p = some x ∧ Hid (Sees a v (strs l) ∧ p.block < a.heap.size ∧ Below w.heap.size w a)) (k : Below a.heap.size a b) : b.cell? p = some x ∧ Hid (Sees b v (strs l) ∧ p.block < b.heap.size ∧ Below w.heap.size w b) := by
 obtain ⟨h1, h2⟩ := h
 have h2 := h2.out
 have := k.size
 exact ⟨(k.cell h2.2.1).trans h1, ⟨h2.1.below k, by omega, bel2v h2.2.2 k⟩⟩
set_option maxRecDepth 4000 in
set_option maxHeartbeats 8000000 in
theorem nparent_any (s : ByteArray) (w : World) (hs : s.size ≤ maxLen) :
 Calls Tryz.prog 96 #[.string s] w fun e w' => e = .returned (.tuple #[.string (parentB s).1, .string (parentB s).2.1, errV (parentB s).2.2]) ∧ Below w.heap.size w w' := by
 have HX : Hid (Calls Tryz.prog 44 _ _ _) := nsplit_any s w hs
 have cp := split_code s
 have sp := split_small s
 have HU : Hid (parentB s = if (splitB s).2 ≠ 0 then (⟨#[]⟩, ⟨#[]⟩, (splitB s).2) else if (splitB s).1.length = 0 then (⟨#[]⟩, ⟨#[]⟩, 2) else (joinB ((splitB s).1.take ((splitB s).1.length - 1)), (splitB s).1.getD ((splitB s).1.length - 1) ⟨#[]⟩, 0)) := rfl
 obtain ⟨⟨a, e⟩, he⟩ : ∃ x, splitB s = x := ⟨_, rfl⟩
 rw [he] at HX cp sp HU
 simp only at HX cp sp HU
 have HSM : Hid (a.length ≤ 6 ∧ ∀ q ∈ a, q.size ≤ 12) := sp
 clear hs he sp
 rcases cp with hp0 | ⟨hp0, _⟩
 · subst hp0
   have e0 : errV 0 = .nilIface := rfl
   rw [e0] at HX
   clear e0
   go_enter Tryz.func96, Tryz.ntmps96
   go_wp2_with fail
   go_at_call 44
   refine HX.out.mono ?_
   rintro e1 w1 ⟨r1, rfl, hr1, hb1⟩
   have H1 : Hid (Sees w1 r1 (strs a) ∧ Below w.heap.size w w1) := ⟨hr1, hb1⟩
   clear hr1 hb1 HX
   obtain ⟨ao, ac, ha, hcap, _, _, hac⟩ := H1.out.1
   rw [strs_len] at ha hac hcap
   subst ha
   rcases Nat.eq_zero_or_pos a.length with h0 | h0
   · have HR : Hid (parentB s = (⟨#[]⟩, ⟨#[]⟩, 2)) := by show _ = _; rw [HU.out, if_neg (by simp), if_pos h0]
     rw [h0]
     clear HU hac hcap
     go_wp2
     go_ret3
     exact ⟨by rw [HR.out]; rfl, H1.out.2⟩
   · obtain ⟨m, hm⟩ : ∃ m, a.length = m + 1 := ⟨a.length - 1, by omega⟩
     have HR : Hid (parentB s = (joinB (a.take m), a.getD m ⟨#[]⟩, 0)) := by
      show _ = _
      rw [HU.out, if_neg (by simp), if_neg (by omega), hm]; rfl
     obtain ⟨b, off, hao, hbl, hc⟩ := hac h0
     subst hao
     have HSE : Sees w1 (.slice (some ⟨b, off, none⟩) m ac) (strs (a.take m)) := Sees.cut H1.out.1 m (by omega)
     have hml : m < a.length := by omega
     have c0 := hc m _ (strs_at a m hml)
     have HTT : Hid (tot (a.take m) ≤ 1000000) := by
      have h1 := tot_take a m
      have h2 := tot_small a HSM.out.2
      have := HSM.out.1
      show _ ≤ _
      omega
     have m6 : (m : Int) ≤ 6 := by have := HSM.out.1; omega
     have m0 : (0 : Int) ≤ (m : Int) := by omega
     have mc : (m : Int) ≤ (ac : Int) := by
      omega
     obtain ⟨q, hq⟩ : ∃ q, a.getD m ⟨#[]⟩ = q := ⟨_, rfl⟩
     rw [hq] at c0 HR
     have HS0 : Hid (w1.cell? ⟨b, off + m, none⟩ = some (.string q) ∧ Hid (Sees w1 (.slice (some ⟨b, off, none⟩) m ac) (strs (a.take m)) ∧ b < w1.heap.size ∧ Below w.heap.size w w1)) := ⟨c0, ⟨HSE, hbl, H1.out.2⟩⟩
     have HJ : Hid (∀ W, (W.cell? ⟨b, off + m, none⟩ = some (.string q) ∧ Hid (Sees W (.slice (some ⟨b, off, none⟩) m ac) (strs (a.take m)) ∧ b < W.heap.size ∧ Below w.heap.size w W)) → Calls Tryz.prog 130 #[.slice (some ⟨b, off, none⟩) m ac] W fun e w' => e = .returned (.string (joinB (a.take m))) ∧ Below W.heap.size W w') := fun W h => njoin_any _ (a.take m) W h.2.out.1 HTT.out
     rw [hm]
     clear hac hc hbl hm hml h0 hq HU hcap HSE HTT HSM H1
     have f0 : ((m : Int) + 1 - 1) = (m : Int) := by omega
     have f1 : (m : Int) < (m : Int) + 1 := by omega
     have f2 : IntKind.i64.wrap (m : Int) = (m : Int) := by rw [IntKind.wrap_i64]; omega
     go_wp2
     go_region_held3 (fun w' => w'.cell? ⟨b, off + m, none⟩ = some (.string q) ∧ Hid (Sees w' (.slice (some ⟨b, off, none⟩) m ac) (strs (a.take m)) ∧ b < w'.heap.size ∧ Below w.heap.size w w')) (first | exact HS0.out | exact keepP HS0.out ((Below.refl _ _).drew) | exact keepP (by assumption) (by assumption))
      (first
        | (go_at_call 130; refine (HJ.out _ (by assumption)).mono ?_; rintro e w2 ⟨rfl, hb2⟩))
     rename_i hS
     have HB : Hid (Below w.heap.size w w2) := hS.2.out.2.2
     clear hS HJ HS0
     go_wp2
     go_ret3
     exact ⟨by rw [HR.out]; rfl, HB.out⟩
 · have HE : errV e = .iface 80 (.int .i64 e) := by unfold errV; rw [if_neg hp0]
   have HR : Hid (parentB s = (⟨#[]⟩, ⟨#[]⟩, e)) := by show _ = _; rw [HU.out, if_pos hp0]
   have HE2 : Hid (errV e = .iface 80 (.int .i64 e)) := HE
   rw [HE] at HX
   clear HU hp0 HE
   go_enter Tryz.func96, Tryz.ntmps96
   go_wp2_with fail
   go_at_call 44
   refine HX.out.mono ?_
   rintro e1 w1 ⟨r1, rfl, hr1, hb1⟩
   have H1 : Hid (Below w.heap.size w w1) := hb1
   clear hr1 hb1 HX
   go_wp2
   go_ret3
   exact ⟨by rw [HR.out]; simp only; rw [HE2.out]; rfl, H1.out⟩
theorem equal_any (x y : Value) (a b : List ByteArray) (w : World) (hx : Sees w x (strs a)) (hy : Sees w y (strs b)) (hl : a.length = b.length) :
 Calls Tryz.prog 131 #[x, y] w fun e w' => e = .returned (.bool (decide (a = b))) ∧ Below w.heap.size w w' := by
 obtain ⟨ao, ac, rfl, h1, h2, h3, h4⟩ := hx
 obtain ⟨bo, bc, rfl, k1, k2, k3, k4⟩ := hy
 rw [strs_len] at h1 h4 k1 k4
 rw [strs_len, strs_len]
 unfold maxLen at h2 k2
 rcases Nat.eq_zero_or_pos a.length with h0 | h0
 · rw [h0, ← hl, h0]
   refine (Any.slices_Equal_string_empty Tryz.lays193 ao bo ac 0 bc w (by omega)).mono ?_
   rintro e w' ⟨rfl, rfl⟩
   have ea : a = [] := List.eq_nil_of_length_eq_zero h0
   have eb : b = [] := List.eq_nil_of_length_eq_zero (by omega)
   subst ea eb
   exact ⟨rfl, Below.refl _ _⟩
 · obtain ⟨p, o, rfl, hp, hc⟩ := h4 h0
   obtain ⟨q, o2, rfl, hq, kc⟩ := k4 (by omega)
   refine (Any.slices_Equal_string Tryz.lays193 p o a.length ac q o2 b.length bc a b w (Nat.le_refl _) (Nat.le_refl _) (by omega) (by omega) (fun j hj => hc j _ (strs_at a j hj)) (fun j hj => kc j _ (strs_at b j hj))).mono ?_
   rintro e w' ⟨rfl, m, rfl⟩
   rw [List.take_length, List.take_length]
   exact ⟨rfl, drewB (Below.refl _ _) m⟩
set_option maxRecDepth 4000 in
set_option maxHeartbeats 8000000 in
theorem nunder_any (p d : ByteArray) (w : World) (hp : p.size ≤ maxLen) (hd : d.size ≤ maxLen) :
 Calls Tryz.prog 99 #[.string p, .string d] w fun e w' => e = .returned (.bool (underB p d)) ∧ Below w.heap.size w w' := by
 have HX : Hid (Calls Tryz.prog 44 _ _ _) := nsplit_any p w hp
 have HY : Hid (∀ w, Calls Tryz.prog 44 #[.string d] w fun e w' => ∃ r, e = .returned (.tuple #[r, errV (splitB d).2]) ∧ Sees w' r (strs (splitB d).1) ∧ Below w.heap.size w w') := fun w => nsplit_any d w hd
 have cp := split_code p
 have cd := split_code d
 have sp := (split_small p).1
 have sd := (split_small d).1
 have HU : Hid (underB p d = decide ((splitB p).2 = 0 ∧ (splitB d).2 = 0 ∧ (splitB p).1.take (splitB d).1.length = (splitB d).1)) := rfl
 obtain ⟨⟨a, e⟩, he⟩ : ∃ x, splitB p = x := ⟨_, rfl⟩
 obtain ⟨⟨b, f⟩, hf⟩ : ∃ x, splitB d = x := ⟨_, rfl⟩
 rw [he] at HX cp sp HU
 rw [hf] at HY cd sd HU
 simp only at HX HY cp cd sp sd HU
 clear hp hd he hf
 rcases cp with hp0 | ⟨hp0, _⟩
 · subst hp0
   have e0 : errV 0 = .nilIface := rfl
   rw [e0] at HX
   clear e0
   go_enter Tryz.func99, Tryz.ntmps99
   go_wp2_with fail
   go_at_call 44
   refine HX.out.mono ?_
   rintro e1 w1 ⟨r1, rfl, hr1, hb1⟩
   have H1 : Hid (Sees w1 r1 (strs a) ∧ Below w.heap.size w w1) := ⟨hr1, hb1⟩
   clear hr1 hb1 HX
   rcases cd with hd0 | ⟨hd0, _⟩
   · subst hd0
     have e0 : errV 0 = .nilIface := rfl
     rw [e0] at HY
     clear e0
     go_wp2_with fail
     go_at_call 44
     refine (HY.out w1).mono ?_
     rintro e2 w2 ⟨r2, rfl, hr2, hb2⟩
     have H2 : Hid (Sees w2 r1 (strs a) ∧ Sees w2 r2 (strs b) ∧ Below w.heap.size w w2) := ⟨H1.out.1.below hb2, hr2, bel2v H1.out.2 hb2⟩
     clear hr2 hb2 HY H1
     obtain ⟨ao, ac, ha, h1, _, _, _⟩ := H2.out.1
     obtain ⟨bo, bc, hb, k1, _, _, _⟩ := H2.out.2.1
     rw [strs_len] at ha hb h1 k1
     subst ha hb
     have la : (a.length : Int) ≤ 6 := by omega
     have lb : (b.length : Int) ≤ 6 := by omega
     by_cases hl : (a.length : Int) < (b.length : Int)
     · have HR : Hid (underB p d = false) := by
        show _ = _
        rw [HU.out]
        refine decide_eq_false ?_
        rintro ⟨_, _, h⟩
        have := congrArg List.length h
        simp at this
        omega
       clear HU
       go_wp2
       go_ret
       exact ⟨congrArg (fun b => Ending.returned (.bool b)) HR.out.symm, H2.out.2.2⟩
     · have HQ : Hid (Calls Tryz.prog 131 _ _ _) := equal_any _ _ (a.take b.length) b w2 (Sees.cut H2.out.1 b.length (by omega)) H2.out.2.1 (by simp; omega)
       have HR : Hid (underB p d = decide (a.take b.length = b)) := by
        show _ = _
        rw [HU.out]
        simp
       obtain ⟨u, hu⟩ : ∃ u, decide (a.take b.length = b) = u := ⟨_, rfl⟩
       rw [hu] at HQ HR
       have lc : (b.length : Int) ≤ (ac : Int) := by omega
       have ld : (0 : Int) ≤ (b.length : Int) := by omega
       clear HU hu
       go_wp2_with fail
       go_at_call 131
       refine HQ.out.mono ?_
       rintro e3 w3 ⟨rfl, hb3⟩
       have H3 : Hid (Below w.heap.size w w3) := bel2v H2.out.2.2 hb3
       clear hb3 HQ
       go_wp2
       go_ret
       exact ⟨congrArg (fun b => Ending.returned (.bool b)) HR.out.symm, H3.out⟩
   · have HE : errV f = .iface 80 (.int .i64 f) := by unfold errV; rw [if_neg hd0]
     have HR : Hid (underB p d = false) := by
      show _ = _
      rw [HU.out]
      refine decide_eq_false ?_
      rintro ⟨_, h, _⟩
      exact hd0 h
     rw [HE] at HY
     clear HU hd0 HE
     go_wp2_with fail
     go_at_call 44
     refine (HY.out w1).mono ?_
     rintro e2 w2 ⟨r2, rfl, hr2, hb2⟩
     have H2 : Hid (Below w.heap.size w w2) := bel2v H1.out.2 hb2
     clear hr2 hb2 HY H1
     go_wp2
     go_ret
     exact ⟨congrArg (fun b => Ending.returned (.bool b)) HR.out.symm, H2.out⟩
 · have HE : errV e = .iface 80 (.int .i64 e) := by unfold errV; rw [if_neg hp0]
   have HR : Hid (underB p d = false) := by
    show _ = _
    rw [HU.out]
    refine decide_eq_false ?_
    rintro ⟨h, _⟩
    exact hp0 h
   rw [HE] at HX
   clear HU hp0 cd HE HY
   go_enter Tryz.func99, Tryz.ntmps99
   go_wp2_with fail
   go_at_call 44
   refine HX.out.mono ?_
   rintro e1 w1 ⟨r1, rfl, hr1, hb1⟩
   have H1 : Hid (Below w.heap.size w w1) := hb1
   clear hr1 hb1 HX
   go_wp2
   go_ret
   exact ⟨congrArg (fun b => Ending.returned (.bool b)) HR.out.symm, H1.out⟩
end Go.Proofs.YtbebgobboccjcaaGreatDoor
namespace Go.Proofs.YtbebgobboccjcaaGreatDoor
open Go.RowKit Kit
set_option linter.unusedVariables false

set_option maxRecDepth 4000 in
set_option maxHeartbeats 4000000 in
theorem name_any (f : FN) (s : ByteArray) (w : World) (h : f.is w) (hl : f.n.names.length = f.n.inos.length) :
 Calls Tryz.prog 84 #[f.val, .string s] w fun e w' => e = .returned (.int .i64 (nameB f.n s)) ∧ Below w.heap.size w w' := by
 obtain ⟨⟨ino, kind, data, names, inos⟩, d, m, i⟩ := f
 obtain ⟨_, hm, hi⟩ := h
 unfold FN.val
 simp only at hm hi hl ⊢
 obtain ⟨mo, mc, rfl, h1, h2, h3, h4⟩ := hm
 obtain ⟨io, ic, rfl, k1, k2, k3, k4⟩ := hi
 rw [strs_len] at h1 h4 ⊢
 rw [intsV_len] at k1 k4 ⊢
 have lm : (names.length : Int) ≤ 9223372036854775807 := by unfold maxLen at h2; omega
 have H4 : Hid (_ → _) := h4
 have K4 : Hid (_ → _) := k4
 have HL : Hid (names.length = inos.length) := hl
 clear h1 h2 h3 h4 k1 k2 k3 k4 hl
 go_enter Tryz.func84, Tryz.ntmps84
 go_wp2
 go_loopw [5] (fun z wr => ∃ k : Nat, k ≤ names.length ∧ (0 < k → kind = 2) ∧ z = .int .i64 (k : Int) ∧ wr = w.alloc (.cells #[.int .i64 ino, .int .i64 kind, d, .slice mo names.length mc, .slice io inos.length ic] 60) ∧ Hid (∀ j, j < k → names.getD j ⟨#[]⟩ ≠ s)) (fun z _ => names.length - (intOf z).toNat)
 case atStart => exact ⟨0, Nat.zero_le _, fun h => by omega, rfl, rfl, fun j hj => by omega⟩
 case round =>
  obtain ⟨k, hk, hk2, rfl, rfl, HN⟩ := hrel
  by_cases hlt : k < names.length
  · have j0 : (k : Int) < (names.length : Int) := by omega
    have j1 : (0 : Int) ≤ (k : Int) := by omega
    by_cases hkd : kind = 2
    · subst hkd
      obtain ⟨mb, mf, hmo, hmb, hmcell⟩ := H4.out (by omega)
      obtain ⟨ib, jf, hio, hib, hicell⟩ := K4.out (by have := HL.out; omega)
      subst hmo hio
      have hbel := (Below.refl w.heap.size w).alloc (Nat.le_refl _) (.cells #[.int .i64 ino, .int .i64 2, d, .slice (some ⟨mb, mf, none⟩) names.length mc, .slice (some ⟨ib, jf, none⟩) inos.length ic] 60)
      have c0 := (hbel.cell (by exact hmb)).trans (hmcell k _ (strs_at names k hlt))
      have c1 := (hbel.cell (by exact hib)).trans (hicell k _ (intsV_at .i64 inos k (by have := HL.out; omega)))
      obtain ⟨x, hx⟩ : ∃ x, names.getD k ⟨#[]⟩ = x := ⟨_, rfl⟩
      obtain ⟨y, hy⟩ : ∃ y, inos.getD k 0 = y := ⟨_, rfl⟩
      rw [hx] at c0
      rw [hy] at c1
      have HX : Hid (names.getD k ⟨#[]⟩ = x ∧ inos.getD k 0 = y) := ⟨hx, hy⟩
      have hq := bytes_eq x s
      have j2 : (k : Int) < (inos.length : Int) := by have := HL.out; omega
      clear hmcell hicell hx hy hbel hmb hib
      by_cases hxs : x = s
      · rw [decide_eq_true hxs] at hq
        have HR : Hid (nameB ⟨ino, 2, data, names, inos⟩ s = y) := by
         show _ = _
         unfold nameB
         rw [if_pos rfl]
         simp only
         have : (names.findIdx? fun q => decide (q = s)) = some k := by
          rw [List.findIdx?_eq_some_iff_getElem]
          refine ⟨hlt, ?_, fun j hj => ?_⟩
          · have := HX.out.1
            simp [List.getD, hlt] at this
            simp [this, hxs]
          · have := HN.out j hj
            simp [List.getD, show j < names.length by omega] at this
            simpa using this
         rw [this]
         exact HX.out.2
        clear HN HX hxs
        go_wp2
        go_ret
        exact ⟨by rw [HR.out]; rfl, (Below.refl _ _).alloc (Nat.le_refl _) _⟩
      · rw [decide_eq_false hxs] at hq
        have HN2 : Hid (∀ j, j < k + 1 → names.getD j ⟨#[]⟩ ≠ s) := fun j hj => by
         by_cases e : j = k
         · subst e; rw [HX.out.1]; exact hxs
         · exact HN.out j (by omega)
        clear HN HX hxs
        go_wp2
        go_roundw
        case rel => exact ⟨k + 1, by omega, fun _ => trivial, by simp, by simp, HN2⟩
        case measure => simp [intOf]; omega
    · have hke : (kind == 2) = false := beq_eq_false_iff_ne.2 hkd
      have HR : Hid (nameB ⟨ino, kind, data, names, inos⟩ s = 0) := by show _ = _; unfold nameB; rw [if_neg hkd]
      clear HN hkd hk2
      go_wp2
      go_ret
      exact ⟨by rw [HR.out]; rfl, (Below.refl _ _).alloc (Nat.le_refl _) _⟩
  · obtain rfl : k = names.length := by omega
    have HR : Hid (nameB ⟨ino, kind, data, names, inos⟩ s = 0) := by
     show _ = _
     unfold nameB
     split
     · simp only
       have : (names.findIdx? fun q => decide (q = s)) = none := by
        rw [List.findIdx?_eq_none_iff]
        intro q hq
        obtain ⟨j, hj, rfl⟩ := List.mem_iff_getElem.1 hq
        have := HN.out j hj
        simp [List.getD, hj] at this
        simpa using this
       rw [this]
     · rfl
    have j0 : ¬ (names.length : Int) < (names.length : Int) := by omega
    clear HN hk2 hlt
    go_wp2
    go_ret
    exact ⟨by rw [HR.out]; rfl, (Below.refl _ _).alloc (Nat.le_refl _) _⟩
def resV (r : Except Int Nat) : Value := match r with
 | .ok k => .tuple #[.int .i64 (k : Int), .int .i64 0]
 | .error e => .tuple #[.int .i64 (-1), .int .i64 e]
theorem belS {w1 a b : World} {A B C D E F G : Prop} (h : A ∧ B ∧ C ∧ D ∧ E ∧ F ∧ G ∧ Hid (Below w1.heap.size w1 a)) (k : Below a.heap.size a b) : Below w1.heap.size w1 b := bel2v h.2.2.2.2.2.2.2.out k

theorem belT {w1 a : World} {A B C D E F G : Prop} (h : A ∧ B ∧ C ∧ D ∧ E ∧ F ∧ G ∧ Hid (Below w1.heap.size w1 a)) : Below w1.heap.size w1 a := h.2.2.2.2.2.2.2.out
set_option maxRecDepth 4000 in
set_option maxHeartbeats 8000000 in
theorem find_any (v : Value) (t : TreeB) (p : ByteArray) (w : World) (hT : TreeAt w v t) (hg : Good t) (hp : p.size ≤ maxLen) :
 Calls Tryz.prog 53 #[v, .string p] w fun e w' => e = .returned (resV (findB t p)) ∧ Below w.heap.size w w' := by
 have HT : Hid (TreeAt w v t) := hT
 obtain ⟨ao, cap, fs, rfl, h1, h2, h3, h4, h5⟩ := hT.opened
 have hl := fs_len h3
 have h0 := hg.e.root0
 obtain ⟨b, off, hao, hb, hc⟩ := h5 h0.1
 subst hao
 have lm : (t.nodes.length : Int) ≤ 60 := by have := hg.e.size; omega
 have HC : Hid (b < w.heap.size ∧ (∀ k (hk : k < fs.length), At5 w b (off + k * 5) fs[k]) ∧ fs.map FN.n = t.nodes ∧ (∀ f ∈ fs, f.is w)) := ⟨hb, hc, h3, h4⟩
 have HG : Hid (Good t) := hg
 have HX : Hid (∀ w, Calls Tryz.prog 46 #[.string p] w fun e w' => ∃ r, e = .returned (.tuple #[r, .int .i64 (splitB p).2]) ∧ RowV w' w.heap.size 9 r (strs (splitB p).1) ∧ Below w.heap.size w w') := fun w => split_any p w hp
 have HF : Hid (findB t p = if (splitB p).2 ≠ 0 then .error (splitB p).2 else walkB t 0 (splitB p).1) := by
  show _ = _
  unfold findB rootP
  rw [hg.e.one]; rfl
 have sp := (split_small p).1
 obtain ⟨⟨l, c⟩, he⟩ : ∃ x, splitB p = x := ⟨_, rfl⟩
 rw [he] at HX HF sp
 simp only at HX HF sp
 have hlen : (l.length : Int) ≤ 6 := by omega
 have HP : Hid (∀ W i, Below w.heap.size w W → Calls Tryz.prog 23 #[.agg #[.slice (some ⟨b, off, none⟩) t.nodes.length cap, .int .i64 t.next], .int .i64 i] W fun e w' => e = .returned (.int .i64 (placeB t i)) ∧ Below W.heap.size W w') := fun W i hb => place_any _ t i W (HT.out.below hb)
 have hz : 0 < t.nodes.length := h0.1
 clear h1 h2 h3 h4 h5 hT hb hc hp he sp h0 hg
 go_enter Tryz.func53, Tryz.ntmps53
 obtain ⟨w0, hw0⟩ : ∃ w0, w0 = w.alloc (.cells #[.slice (some ⟨b, off, none⟩) t.nodes.length cap, .int .i64 t.next] 29) := ⟨_, rfl⟩
 have HW0 : Hid (Below w.heap.size w w0 ∧ w.heap.size < w0.heap.size ∧ w0.cell? ⟨w.heap.size, 0, none⟩ = some (.slice (some ⟨b, off, none⟩) t.nodes.length cap) ∧ w0.cell? ⟨w.heap.size, 1, none⟩ = some (.int .i64 t.next)) := by
  subst hw0
  exact ⟨(Below.refl _ _).alloc (Nat.le_refl _) _, by simp, by simp, by simp⟩
 go_wp2_with fail
 go_at_call 46
 rw [← hw0]
 refine (HX.out w0).mono ?_
 rintro e1 w1 ⟨r1, rfl, hr1, hb1⟩
 have H1 : Hid (Sees w1 r1 (strs l) ∧ Below w.heap.size w w1 ∧ w.heap.size < w1.heap.size ∧ w1.cell? ⟨w.heap.size, 0, none⟩ = some (.slice (some ⟨b, off, none⟩) t.nodes.length cap) ∧ w1.cell? ⟨w.heap.size, 1, none⟩ = some (.int .i64 t.next)) :=
  ⟨hr1.sees, bel2v HW0.out.1 hb1, Nat.lt_of_lt_of_le HW0.out.2.1 hb1.size, (hb1.cell (by exact HW0.out.2.1)).trans HW0.out.2.2.1, (hb1.cell (by exact HW0.out.2.1)).trans HW0.out.2.2.2⟩
 clear hr1 hb1 HX HW0 hw0
 by_cases hc0 : c = 0
 · subst hc0
   obtain ⟨lo, lc, hr, _, _, _, hlcell⟩ := H1.out.1
   rw [strs_len] at hr hlcell
   subst hr
   have HL : Hid (_ → _) := hlcell
   have HF2 : Hid (findB t p = walkB t 0 l) := by show _ = _; rw [HF.out, if_neg (by simp)]
   have hB1 := H1.out.2.1
   have c0 := H1.out.2.2.2.1
   have c1 := H1.out.2.2.2.2
   clear hlcell HF hB1
   go_wp2_with fail
   go_at_call 23
   refine (HP.out w1 1 H1.out.2.1).mono ?_
   have hp1 : placeB t 1 = 0 := by unfold placeB; rw [HG.out.e.one]; rfl
   rw [hp1]
   rintro e2 w2 ⟨rfl, hb2⟩
   have H2 : Hid (Below w1.heap.size w1 w2) := hb2
   clear hb2 hp1
   go_wp2
   go_loopw [8, 9, 10] (fun a i _ wr => ∃ k at' : Nat, k ≤ l.length ∧ at' < t.nodes.length ∧ a = .int .i64 (at' : Int) ∧ i = .int .i64 (k : Int) ∧ Hid (findB t p = walkB t at' (l.drop k)) ∧ Hid (Below w1.heap.size w1 wr)) (fun _ i _ _ => l.length - (intOf i).toNat)
   case atStart => exact ⟨0, 0, Nat.zero_le _, hz, rfl, rfl, by rw [List.drop_zero]; exact HF2, H2.out⟩
   case round =>
    obtain ⟨k, at', hk, hat, rfl, rfl, HR, HW⟩ := hrel
    clear H2 HF2
    by_cases hlt : k < l.length
    · obtain ⟨lb, lf, hlo, hlb, hlc⟩ := HL.out (by omega)
      subst hlo
      have hfk : at' < fs.length := by omega
      have a5 := At5.below (At5.below (HC.out.2.1 at' hfk) HC.out.1 H1.out.2.1) (Nat.lt_of_lt_of_le HC.out.1 H1.out.2.1.size) (Below.refl _ _)
      have hn : nodeAt t at' = fs[at'].n := fs_at HC.out.2.2.1 hfk
      have hfis : fs[at'].is w := HC.out.2.2.2 _ (List.getElem_mem hfk)
      have ok := HG.out.e.each _ (nodeAt_mem hat)
      rw [hn] at ok
      obtain ⟨f, hf⟩ : ∃ f, fs[at'] = f := ⟨_, rfl⟩
      rw [hf] at a5 hn hfis ok
      have hdrop : l.drop k = l.getD k ⟨#[]⟩ :: l.drop (k + 1) := by rw [List.drop_eq_getElem_cons hlt]; simp [List.getD, hlt]
      have hq := hlc k _ (strs_at l k hlt)
      obtain ⟨q, hqe⟩ : ∃ q, l.getD k ⟨#[]⟩ = q := ⟨_, rfl⟩
      rw [hqe] at hq hdrop
      have hblw : b < w1.heap.size := Nat.lt_of_lt_of_le HC.out.1 H1.out.2.1.size
      have HK : Hid (∀ W, Below w1.heap.size w1 W → W.cell? ⟨w.heap.size, 0, none⟩ = some (.slice (some ⟨b, off, none⟩) t.nodes.length cap) ∧ W.cell? ⟨b, off + at' * 5, none⟩ = some (.int .i64 f.n.ino) ∧ W.cell? ⟨b, off + at' * 5 + 1, none⟩ = some (.int .i64 f.n.kind) ∧ W.cell? ⟨b, off + at' * 5 + 2, none⟩ = some f.d ∧ W.cell? ⟨b, off + at' * 5 + 3, none⟩ = some f.m ∧ W.cell? ⟨b, off + at' * 5 + 4, none⟩ = some f.i ∧ W.cell? ⟨lb, lf + k, none⟩ = some (.string q) ∧ Hid (Below w1.heap.size w1 W)) := fun W hW => by
       have a6 := At5.below a5 hblw hW
       exact ⟨(hW.cell (by exact H1.out.2.2.1)).trans H1.out.2.2.2.1, a6.1, a6.2.1, a6.2.2.1, a6.2.2.2.1, a6.2.2.2.2, (hW.cell (by exact hlb)).trans hq, hW⟩
      have HNM : Hid (∀ W, Below w1.heap.size w1 W → Calls Tryz.prog 84 #[.agg #[.int .i64 f.n.ino, .int .i64 f.n.kind, f.d, f.m, f.i], .string q] W fun e w' => e = .returned (.int .i64 (nameB f.n q)) ∧ Below W.heap.size W w') := fun W hW => name_any f q W (hfis.below (bel2v H1.out.2.1 hW)) ok.len
      have j0 : (k : Int) < (l.length : Int) := by omega
      have j1 : (0 : Int) ≤ (k : Int) := by omega
      have j2 : (at' : Int) < (t.nodes.length : Int) := by omega
      have j3 : (0 : Int) ≤ (at' : Int) := by omega
      have HR2 : Hid (findB t p = walkB t at' (q :: l.drop (k + 1))) := by rw [← hdrop]; exact HR
      have HN : Hid (nodeAt t at' = f.n) := hn
      obtain ⟨d0, d1, d2, d3, d4, d5, d6, _⟩ := HK.out _ HW.out
      clear hlc hlb hq hdrop hqe HR hfis a5 hn hf hblw c0 c1
      by_cases hkd : f.n.kind = 2
      · rw [hkd] at d2 HK HNM
        go_wp2
        go_region_held3 (fun W => W.cell? ⟨w.heap.size, 0, none⟩ = some (.slice (some ⟨b, off, none⟩) t.nodes.length cap) ∧ W.cell? ⟨b, off + at' * 5, none⟩ = some (.int .i64 f.n.ino) ∧ W.cell? ⟨b, off + at' * 5 + 1, none⟩ = some (.int .i64 2) ∧ W.cell? ⟨b, off + at' * 5 + 2, none⟩ = some f.d ∧ W.cell? ⟨b, off + at' * 5 + 3, none⟩ = some f.m ∧ W.cell? ⟨b, off + at' * 5 + 4, none⟩ = some f.i ∧ W.cell? ⟨lb, lf + k, none⟩ = some (.string q) ∧ Hid (Below w1.heap.size w1 W)) (first | exact HK.out _ HW.out | exact HK.out _ HW.out.drew | exact HK.out _ (belS (by assumption) (by assumption)))
         (first
           | (go_at_call 84; go_fit (HNM.out _ (belT (by assumption))); rintro e3 w3 ⟨rfl, hb3⟩))
        rename_i hS
        have HB3 : Hid (Below w1.heap.size w1 w3) := hS.2.2.2.2.2.2.2
        clear hS HNM hb3
        obtain ⟨x, hx⟩ : ∃ x, nameB f.n q = x := ⟨_, rfl⟩
        rw [hx]
        by_cases hx0 : x = 0
        · subst hx0
          have HE : Hid (findB t p = .error 5) := by
           show _ = _
           rw [HR2.out, walkB, HN.out, if_neg (by simp [hkd]), if_pos hx]
          clear HR2 hx
          go_wp2
          go_ret2
          exact ⟨by rw [HE.out]; rfl, bel2v H1.out.2.1 HB3.out⟩
        · have hxe : (x == 0) = false := beq_eq_false_iff_ne.2 hx0
          have hgo : ∃ y, y < t.nodes.length ∧ placeB t x = (y : Int) ∧ findB t p = walkB t y (l.drop (k + 1)) := by
           have hn0 : nameB f.n q ≠ 0 := by rw [hx]; exact hx0
           obtain ⟨_, j, hj, _, hv⟩ := nameB_some ok.len hn0
           have hmem : x ∈ (nodeAt t at').inos := by rw [HN.out, ← hx, ← hv]; exact List.getElem_mem _
           obtain ⟨_, m, hm, hmi⟩ := HG.out.e.leads _ (nodeAt_mem hat) x hmem
           obtain ⟨y, hy⟩ := placeO_of hm
           rw [hmi] at hy
           refine ⟨y, (placeO_some hy).1, by unfold placeB; rw [hy], ?_⟩
           rw [HR2.out, walkB, HN.out, if_neg (by simp [hkd]), hx, if_neg hx0, hy]; rfl
          obtain ⟨y, hy, hpy, hfy⟩ := hgo
          have HFY : Hid (findB t p = walkB t y (l.drop (k + 1))) := hfy
          have HPX : Hid (Calls Tryz.prog 23 _ _ _) := HP.out w3 x (bel2v H1.out.2.1 HB3.out)
          rw [hpy] at HPX
          have c0 := (HB3.out.cell (by exact H1.out.2.2.1)).trans H1.out.2.2.2.1
          have c1 := (HB3.out.cell (by exact H1.out.2.2.1)).trans H1.out.2.2.2.2
          clear hfy hpy hx HR2 d0 d1 d2 d3 d4 d5 d6 HK hx0
          go_wp2_with fail
          go_at_call 23
          refine HPX.out.mono ?_
          rintro e4 w4 ⟨rfl, hb4⟩
          have HB4 : Hid (Below w1.heap.size w1 w4) := bel2v HB3.out hb4
          clear hb4 HPX HB3 c0 c1
          go_wp2
          go_roundw
          case rel => exact ⟨k + 1, y, by omega, hy, rfl, by simp, HFY, HB4.out⟩
          case measure => simp [intOf]; omega
      · have hke : (f.n.kind == 2) = false := beq_eq_false_iff_ne.2 hkd
        have hke2 : (f.n.kind != 2) = true := by simp [hkd]
        have HE : Hid (findB t p = .error 8) := by
         show _ = _
         rw [HR2.out, walkB, HN.out, if_pos hkd]
        clear HR2 HK HNM hkd
        go_wp2
        go_ret2
        exact ⟨by rw [HE.out]; rfl, bel2v H1.out.2.1 HW.out⟩
    · obtain rfl : k = l.length := by omega
      have HE : Hid (findB t p = .ok at') := by
       have := HR.out
       rw [List.drop_length, walkB] at this
       exact this
      clear HR
      go_wp2
      go_ret2
      exact ⟨by rw [HE.out]; rfl, bel2v H1.out.2.1 HW.out⟩
 · have hce : (c == 0) = false := beq_eq_false_iff_ne.2 hc0
   have hce2 : (c != 0) = true := by simp [hc0]
   have HE : Hid (findB t p = .error c) := by show _ = _; rw [HF.out, if_pos hc0]
   clear HF hc0
   go_wp2
   go_ret2
   exact ⟨by rw [HE.out]; rfl, H1.out.2.1⟩
end Go.Proofs.YtbebgobboccjcaaGreatDoor
namespace Go.Proofs.YtbebgobboccjcaaGreatDoor
open Go.RowKit Kit
set_option linter.unusedVariables false

def readsB (k : Int) : Bool := k == 7 || k == 10 || k == 11
theorem find_code {t : TreeB} {p : ByteArray} {x : Int} (h : findB t p = .error x) : x = 2 ∨ x = 3 ∨ x = 4 ∨ x = 5 ∨ x = 8 := by
 unfold findB at h
 split at h
 · rename_i h1
   injection h with h
   subst h
   have h0 := h1
   unfold splitB at h0 ⊢
   split
   · rename_i e; rw [if_pos e] at h0; exact absurd rfl h0
   split
   · exact .inl rfl
   split
   · exact .inl rfl
   split
   · exact .inr (.inl rfl)
   split
   · exact .inr (.inr (.inl rfl))
   · rename_i a b c d e; rw [if_neg a, if_neg b, if_neg c, if_neg d, if_neg e] at h0; exact absurd rfl h0
 · have : ∀ (l : List ByteArray) (k : Nat), walkB t k l = .error x → x = 5 ∨ x = 8 := by
    intro l
    induction l with
    | nil => intro k h; rw [walkB] at h; cases h
    | cons s r ih =>
      intro k h
      rw [walkB] at h
      split at h
      · injection h with h; exact .inr h.symm
      · split at h
        · injection h with h; exact .inl h.symm
        · exact ih _ h
   rcases this _ _ h with h1 | h1
   · exact .inr (.inr (.inr (.inl h1)))
   · exact .inr (.inr (.inr (.inr h1)))
end Go.Proofs.YtbebgobboccjcaaGreatDoor
namespace Go.Proofs.YtbebgobboccjcaaGreatDoor
open Go.RowKit Kit
set_option linter.unusedVariables false

structure Fair (t : TreeB) : Prop where
 root : ∃ r l, t.nodes = r :: l ∧ r.ino = 1 ∧ r.kind = 2
 size : t.nodes.length ≤ 61
 next : 1 ≤ t.next ∧ t.next ≤ 2199023255552
 rise : Rises t
 below : ∀ n ∈ t.nodes, n.ino ≤ 2199023255552
 each : ∀ n ∈ t.nodes, NodeOK n
 leads : ∀ n ∈ t.nodes, ∀ i ∈ n.inos, i ≠ 1 ∧ ∃ m ∈ t.nodes, m.ino = i
 names : ∀ n ∈ t.nodes, n.names.length ≤ 10000
theorem len_le : ∀ (S l : List Int), (∀ i ∈ l, i ∈ S) → (∀ i, l.count i ≤ 20) → l.length ≤ 20 * S.length
 | [], l, h, _ => by
   cases l with
   | nil => simp
   | cons a r => exact absurd (h a (by simp)) (by simp)
 | a :: S, l, h, hc => by
   have h1 := len_le S (l.filter (fun x => !(x == a))) (fun i hi => by
    obtain ⟨h2, h3⟩ := List.mem_filter.1 hi
    rcases List.mem_cons.1 (h i h2) with e | e
    · subst e; simp at h3
    · exact e) (fun i => Nat.le_trans (List.Sublist.count_le i List.filter_sublist) (hc i))
   have h2 := List.length_eq_countP_add_countP (fun x => x == a) (l := l)
   have h3 : l.countP (fun x => x == a) ≤ 20 := hc a
   have h4 : l.countP (fun x => decide (¬ (x == a) = true)) = (l.filter (fun x => !(x == a))).length := by
    rw [← List.countP_eq_length_filter]
    congr 1
    funext x
    cases (x == a) <;> rfl
   rw [List.length_cons]
   omega
theorem kids_ge {t : TreeB} {n : NodeB} (hn : n ∈ t.nodes) (i : Int) : n.inos.count i ≤ kidsB t i := by
 unfold kidsB
 exact sum_ge (f := fun n : NodeB => n.inos.count i) hn
theorem names_small {e : Int} {t : TreeB} (h : GoodE e t) {n : NodeB} (hn : n ∈ t.nodes) : n.names.length ≤ 1200 ∧ n.inos.length ≤ 1200 := by
 have h1 : n.inos.length ≤ 20 * (t.nodes.map NodeB.ino).length := len_le _ _ (fun i hi => by
  obtain ⟨_, m, hm, e⟩ := h.leads n hn i hi
  exact List.mem_map.2 ⟨m, hm, e⟩) (fun i => Nat.le_trans (kids_ge hn i) (h.many i))
 rw [List.length_map] at h1
 have h2 := h.size
 have h3 := (h.each n hn).len
 omega
theorem GoodE.fair {e : Int} {t : TreeB} (h : GoodE e t) : Fair t := by
 have hp : 1 ≤ t.next := by
  obtain ⟨r, l, hl, h1, _⟩ := h.root
  have := h.below r (by rw [hl]; simp)
  omega
 have := h.next
 exact ⟨h.root, by have := h.size; omega, ⟨hp, by omega⟩, h.rise, fun n hn => by have := h.below n hn; omega, h.each, h.leads, fun n hn => by have := (names_small h hn).1; omega⟩
theorem Fair.pos {t : TreeB} (h : Fair t) : ∀ n ∈ t.nodes, 1 ≤ n.ino := by
 obtain ⟨r, l, hl, h1, _⟩ := h.root
 intro n hn
 have hr := h.rise
 unfold Rises at hr
 rw [hl] at hr hn
 rcases List.mem_cons.1 hn with hn | hn
 · rw [hn, h1]; omega
 · have := (List.pairwise_cons.1 hr).1 n hn
   omega
theorem Fair.one {t : TreeB} (h : Fair t) : placeO t 1 = some 0 := by
 obtain ⟨r, l, hl, h1, _⟩ := h.root
 unfold placeO
 rw [hl]
 simp [List.findIdx?_cons, h1]
theorem Fair.root0 {t : TreeB} (h : Fair t) : 0 < t.nodes.length ∧ (nodeAt t 0).ino = 1 ∧ (nodeAt t 0).kind = 2 := by
 obtain ⟨r, l, hl, h1, h2⟩ := h.root
 refine ⟨by rw [hl]; simp, ?_, ?_⟩
 · simp [nodeAt, hl, h1]
 · simp [nodeAt, hl, h2]
theorem Fair.rootP {t : TreeB} (h : Fair t) : rootP t = 0 := by unfold Go.Proofs.YtbebgobboccjcaaGreatDoor.rootP; rw [h.one]; rfl
theorem Fair.nz {t : TreeB} (h : Fair t) {n : NodeB} (hn : n ∈ t.nodes) : ∀ i ∈ n.inos, i ≠ 0 := by
 intro i hi
 obtain ⟨_, m, hm, e⟩ := h.leads n hn i hi
 have := h.pos m hm
 omega
theorem Fair.kind {t : TreeB} (h : Fair t) {n : NodeB} (hn : n ∈ t.nodes) : n.kind = 1 ∨ n.kind = 2 := by
 rcases (h.each n hn).2.2 with k | k
 · exact .inr k.1
 · exact .inl k.1
theorem name_low {n : NodeB} (ok : NodeOK n) (s : ByteArray) : nameB n s = if hasB n.names s then n.inos.getD (lowB n.names s) 0 else 0 := by
 rcases ok.2.2 with hk | hk
 · cases hh : hasB n.names s with
   | true =>
     obtain ⟨hl, he⟩ := (low_mem ok.1).1 (has_iff.1 hh)
     have := nameB_at hk.1 ok.len ok.1 hl
     rw [he] at this
     rw [this, if_pos rfl]
     have hl2 : lowB n.names s < n.inos.length := by rw [← ok.len]; exact hl
     simp [List.getD, hl2]
   | false =>
     have hm : s ∉ n.names := fun h => by rw [has_iff.2 h] at hh; cases hh
     unfold nameB
     rw [if_pos hk.1, List.findIdx?_eq_none_iff.2 (fun q hq => by
      apply decide_eq_false
      intro e
      exact hm (e ▸ hq))]
     rfl
 · have : hasB n.names s = false := by rw [hk.2.1]; rfl
   rw [this]
   unfold nameB
   rw [if_neg (by omega)]
   rfl
theorem has_name {n : NodeB} (ok : NodeOK n) (hz : ∀ i ∈ n.inos, i ≠ 0) (s : ByteArray) : hasB n.names s = true ↔ nameB n s ≠ 0 := by
 rw [name_low ok]
 cases hh : hasB n.names s with
 | false => simp
 | true =>
   obtain ⟨hl, he⟩ := (low_mem ok.1).1 (has_iff.1 hh)
   have hl2 : lowB n.names s < n.inos.length := by rw [← ok.len]; exact hl
   simp only [if_true, true_iff]
   simp only [List.getD, List.getElem?_eq_getElem hl2, Option.getD_some]
   exact hz _ (List.getElem_mem hl2)
theorem Fair.step {t : TreeB} (h : Fair t) {k : Nat} (hk : k < t.nodes.length) {s : ByteArray} (hn : nameB (nodeAt t k) s ≠ 0) : ∃ k', placeO t (nameB (nodeAt t k) s) = some k' ∧ k' < t.nodes.length ∧ (nodeAt t k').ino = nameB (nodeAt t k) s ∧ nameB (nodeAt t k) s ≠ 1 := by
 have ok := h.each _ (nodeAt_mem hk)
 obtain ⟨h2, i, hi, e1, e2⟩ := nameB_some ok.len hn
 obtain ⟨h1, m, hm, e⟩ := h.leads _ (nodeAt_mem hk) (nameB (nodeAt t k) s) (by rw [← e2]; exact List.getElem_mem _)
 obtain ⟨k', hk'⟩ := placeO_of hm
 rw [e] at hk'
 exact ⟨k', hk', (placeO_some hk').1, (placeO_some hk').2, h1⟩
end Go.Proofs.YtbebgobboccjcaaGreatDoor
namespace Go.Proofs.YtbebgobboccjcaaGreatDoor
open Go.RowKit Kit
set_option linter.unusedVariables false

theorem zeroN_run (w : World) : (zeroValue 70).run Tryz.prog w = .ok zeroN w := by kernel_rfl
theorem nfield0 (a b c : Value) (w : World) : (Instr.field 70 (.agg #[a, b, c]) 0).run Tryz.prog w = .ok a w := by kernel_rfl
theorem nfield1 (a b c : Value) (w : World) : (Instr.field 70 (.agg #[a, b, c]) 1).run Tryz.prog w = .ok b w := by kernel_rfl
def dnOf (n : NodeB) (da : Option Addr) (dc : Nat) (sa : Option Addr) (sc : Nat) : DN := ⟨n, .slice da n.data.length dc, .slice sa n.names.length sc⟩
theorem DN.is.form {w : World} {f : DN} (h : f.is w) (ok : NodeOK f.n) : ∃ da dc sa sc, f = dnOf f.n da dc sa sc := by
 obtain ⟨da, dc, h1, _⟩ := h.1
 obtain ⟨sa, sc, h2, _⟩ := h.2
 have e : (pairsB f.n).length = f.n.names.length := by unfold pairsB; rw [List.length_zip]; have := ok.len; omega
 rw [e] at h2
 rw [intsV_len] at h1
 refine ⟨da, dc, sa, sc, ?_⟩
 cases f
 simp only at h1 h2
 subst h1 h2
 rfl
theorem DAt.look {w : World} {p b : Nat} {ds : List DN} {nx : Int} {t : TreeB} (h : DAt w p b ds nx) (hn : ds.map DN.n = t.nodes) (ht : Fair t) {k : Nat} (hk : k < t.nodes.length) :
 ∃ da dc sa sc, dnOf (nodeAt t k) da dc sa sc ∈ ds ∧ (∀ w', MapIs Tryz.prog 3 w' b (ds.map DN.ent) → (Instr.lookup 50 (.map (some b)) (.int .i64 (nodeAt t k).ino) false).run Tryz.prog w' = .ok (.agg #[.int .i64 (nodeAt t k).kind, .slice da (nodeAt t k).data.length dc, .slice sa (nodeAt t k).names.length sc]) w') := by
 have hl : k < ds.length := by rw [← List.length_map (f := DN.n), hn]; exact hk
 have e1 : ds[k].n = nodeAt t k := by
  rw [nodeAt_eq t k hk]
  have : (ds.map DN.n)[k]'(by rw [List.length_map]; exact hl) = t.nodes[k] := by simp only [hn]
  rw [← this, List.getElem_map]
 obtain ⟨da, dc, sa, sc, e2⟩ := (h.2.2 _ (List.getElem_mem hl)).form (by rw [e1]; exact ht.each _ (nodeAt_mem hk))
 rw [e1] at e2
 refine ⟨da, dc, sa, sc, e2 ▸ List.getElem_mem hl, fun w' hm => ?_⟩
 have h1 := ht.pos _ (nodeAt_mem hk)
 have h2 := ht.below _ (nodeAt_mem hk)
 have := hm.look (t := 50) (e := 70) Tryz.underlying3 Tryz.underlying50 (zeroN_run w') (i := (nodeAt t k).ino) (by omega)
 rw [this, get_ent hn, placeO_at ht.rise hk]
 simp only [Option.map_some, Option.getD_some, List.getD, List.getElem?_eq_getElem hl]
 rw [e2]
 rfl
theorem DTree.lookAt {w : World} {p b : Nat} {t : TreeB} (h : DTree w p b t) (ht : Fair t) {k : Nat} (hk : k < t.nodes.length) :
 ∃ da dc sa sc, ∀ W, Below w.heap.size w W → (Instr.lookup 50 (.map (some b)) (.int .i64 (nodeAt t k).ino) false).run Tryz.prog W = .ok (.agg #[.int .i64 (nodeAt t k).kind, .slice da (nodeAt t k).data.length dc, .slice sa (nodeAt t k).names.length sc]) W ∧ W.cell? ⟨p, 0, none⟩ = some (.map (some b)) ∧ (dnOf (nodeAt t k) da dc sa sc).is W := by
 obtain ⟨ds, hd, hn⟩ := h
 obtain ⟨da, dc, sa, sc, hm, hlook⟩ := hd.look hn ht hk
 exact ⟨da, dc, sa, sc, fun W hW => ⟨hlook W (hd.2.1.below hW), (hW.cell (by exact hd.lt.1)).trans hd.cells.1, (hd.2.2 _ hm).below hW⟩⟩
theorem walk_more {t : TreeB} (h : Fair t) {l : List ByteArray} {j k : Nat} (hj : j < l.length) (h1 : (nodeAt t k).kind = 2) (h2 : nameB (nodeAt t k) l[j] ≠ 0) {k' : Nat} (h3 : placeO t (nameB (nodeAt t k) l[j]) = some k') : walkB t k (l.drop j) = walkB t k' (l.drop (j + 1)) := by
 rw [List.drop_eq_getElem_cons hj]
 rw [walkB, if_neg (by omega), if_neg h2, h3]
 rfl
theorem leads_of {n : NodeB} {da sa : Option Addr} {dc sc : Nat} {W : World} (ok : NodeOK n) (hk : n.kind = 2) (hs : n.names.length ≤ 10000) (h : (dnOf n da dc sa sc).is W) (x : ByteArray) :
 Calls Tryz.prog 78 #[.agg #[.int .i64 2, .slice da n.data.length dc, .slice sa n.names.length sc], .string x] W fun e w' => e = .returned (.tuple #[.int .i64 (nameB n x), .bool (hasB n.names x)]) ∧ Below W.heap.size W w' := by
 have h1 := dleads_any (dnOf n da dc sa sc) x W h ok.1 ok.len (by show n.names.length ≤ _; omega)
 have e2 : (dnOf n da dc sa sc).val = .agg #[.int .i64 2, .slice da n.data.length dc, .slice sa n.names.length sc] := by unfold DN.val dnOf; simp only; rw [hk]
 have e3 : (dnOf n da dc sa sc).n = n := rfl
 rw [e2, e3, ← name_low ok] at h1
 exact h1
def outW2 (t : TreeB) (r : Except Int Nat) : Int × Int := match r with
 | .ok k => ((nodeAt t k).ino, 0)
 | .error e => (0, e)
set_option maxRecDepth 4000 in
set_option maxHeartbeats 8000000 in
theorem dfollow_any (v : Value) (l : List ByteArray) (w : World) (p b : Nat) (t : TreeB) (hT : DTree w p b t) (ht : Fair t) (hv : Sees w v (strs l)) (hs : l.length ≤ 1000) :
 Calls Tryz.prog 45 #[.pointer (some ⟨p, 0, none⟩), v] w fun e w' => e = .returned (.tuple #[.int .i64 (outW2 t (walkB t 0 l)).1, errV (outW2 t (walkB t 0 l)).2]) ∧ Below w.heap.size w w' := by
 obtain ⟨ds, hd, hn⟩ := hT
 obtain ⟨ao, cap, rfl, h1, h2, h3, h4⟩ := hv
 rw [strs_len] at h1 h4 ⊢
 obtain ⟨hr0, hr1, hr2⟩ := ht.root0
 have H4 : Hid (0 < l.length → _) := h4
 have HD : Hid (DAt w p b ds t.next) := hd
 have HF : Hid (Fair t) := ht
 have HN : Hid (ds.map DN.n = t.nodes) := hn
 obtain ⟨r, hr⟩ : ∃ r, walkB t 0 l = r := ⟨_, rfl⟩
 have HR : Hid (walkB t 0 l = r) := hr
 rw [hr]
 have lm : (l.length : Int) ≤ 1000 := by omega
 clear h1 h2 h3 h4 hd ht hn hr
 go_enter Tryz.func45, Tryz.ntmps45
 go_wp2
 go_loopw [6, 14] (fun s6 s14 wr => ∃ k j : Nat, s6 = .int .i64 (nodeAt t k).ino ∧ s14 = .int .i64 (j : Int) ∧ j ≤ l.length ∧ k < t.nodes.length ∧ Hid (walkB t k (l.drop j) = r) ∧ Hid (Below w.heap.size w wr)) (fun _ s14 _ => l.length - (intOf s14).toNat)
 case atStart => exact ⟨0, 0, by rw [hr1], rfl, Nat.zero_le _, hr0, HR.out, Below.refl _ _⟩
 case round =>
  obtain ⟨k, j, rfl, rfl, hj, hk, HW, HB⟩ := hrel
  have hdr := HD.out.below HB.out
  by_cases hlt : j < l.length
  · obtain ⟨g, off, hao, hb, hc⟩ := H4.out (by omega)
    subst hao
    have c0 := (HB.out.cell (by exact hb)).trans (hc j _ (strs_at l j hlt))
    obtain ⟨da, dc, sa, sc, hf, hlook⟩ := hdr.look HN.out HF.out hk
    have hl := hlook wr hdr.2.1
    obtain ⟨d0, _, _⟩ := hdr.cells
    obtain ⟨x, hx⟩ : ∃ x, l.getD j ⟨#[]⟩ = x := ⟨_, rfl⟩
    have hx2 : l[j] = x := by rw [← hx]; simp [List.getD, hlt]
    rw [hx] at c0
    have ok := HF.out.each _ (nodeAt_mem hk)
    have hkk := HF.out.kind (nodeAt_mem hk)
    have HX : Hid (l[j] = x) := hx2
    have ji : (j : Int) < (l.length : Int) := by omega
    obtain ⟨ki, hki⟩ : ∃ q, (nodeAt t k).kind = q := ⟨_, rfl⟩
    obtain ⟨ii, hii⟩ : ∃ q, (nodeAt t k).ino = q := ⟨_, rfl⟩
    rw [hki, hii] at hl
    rw [hki] at hkk
    rw [hii]
    have HK : Hid ((nodeAt t k).kind = ki) := hki
    have HFI : Hid ((dnOf (nodeAt t k) da dc sa sc).is wr) := hdr.2.2 _ hf
    have HOK : Hid (NodeOK (nodeAt t k)) := ok
    have HDR : Hid (DAt wr p b ds t.next) := hdr
    clear hc hdr hlook hx hx2 ok hki hii hf
    rcases hkk with hk1 | hk2
    · subst hk1
      have HE : Hid (r = .error 8) := by
       show _ = _
       rw [← HW.out, List.drop_eq_getElem_cons hlt, walkB, if_pos (by rw [HK.out]; omega)]
      clear HW
      go_wp2
      go_ret2
      rw [HE.out]
      exact ⟨rfl, HB.out.alloc HB.out.size _⟩
    · subst hk2
      have hz := HF.out.nz (nodeAt_mem hk)
      have HL : Hid (∀ W, Below wr.heap.size wr W → Calls Tryz.prog 78 #[.agg #[.int .i64 2, .slice da (nodeAt t k).data.length dc, .slice sa (nodeAt t k).names.length sc], .string x] W fun e w' => e = .returned (.tuple #[.int .i64 (nameB (nodeAt t k) x), .bool (hasB (nodeAt t k).names x)]) ∧ Below W.heap.size W w') := fun W hW => by
       exact leads_of HOK.out HK.out (HF.out.names _ (nodeAt_mem hk)) (HFI.out.below hW) x
      have HNM := has_name HOK.out hz x
      cases hh : hasB (nodeAt t k).names x with
      | false =>
        have hz0 : nameB (nodeAt t k) x = 0 := by
         apply Classical.byContradiction
         intro hc
         rw [HNM.2 hc] at hh; cases hh
        have HE : Hid (r = .error 5) := by
         show _ = _
         rw [← HW.out, List.drop_eq_getElem_cons hlt, walkB, if_neg (by rw [HK.out]; omega), if_pos (by rw [HX.out]; exact hz0)]
        rw [hz0, hh] at HL
        clear HW HNM hz hz0 hh
        go_wp2_with fail
        go_at_call 78
        refine (HL.out _ ((Below.refl _ _).alloc (Nat.le_refl _) _)).mono ?_
        rintro e w1 ⟨rfl, hb1⟩
        have HB1 : Hid (Below w.heap.size w w1) := bel2v (HB.out.alloc HB.out.size _) hb1
        clear hb1
        go_wp2
        go_ret2
        rw [HE.out]
        exact ⟨rfl, HB1.out⟩
      | true =>
        obtain ⟨k', hp1, hp2, hp3, hp4⟩ := HF.out.step hk (s := x) (HNM.1 hh)
        have HW2 : Hid (walkB t k' (l.drop (j + 1)) = r) := by
         show _ = _
         rw [← HW.out]
         exact (walk_more HF.out hlt HK.out (by rw [HX.out]; exact HNM.1 hh) (by rw [HX.out]; exact hp1)).symm
        rw [hh, ← hp3] at HL
        clear HW HNM hz hh hp1 hp3 hp4
        go_wp2_with fail
        go_at_call 78
        refine (HL.out _ ((Below.refl _ _).alloc (Nat.le_refl _) _)).mono ?_
        rintro e w1 ⟨rfl, hb1⟩
        have HB1 : Hid (Below w.heap.size w w1) := bel2v (HB.out.alloc HB.out.size _) hb1
        clear hb1
        go_wp2
        go_roundw
        case rel => exact ⟨k', j + 1, rfl, by simp, by omega, hp2, HW2, HB1⟩
        case measure => simp [intOf]; omega
  · have e : j = l.length := by omega
    subst e
    have HE : Hid (r = .ok k) := by
     show _ = _
     rw [← HW.out, List.drop_length, walkB]
    clear HW hdr
    go_wp2
    go_ret2
    rw [HE.out]
    exact ⟨rfl, HB.out⟩
set_option maxRecDepth 4000 in
set_option maxHeartbeats 8000000 in
theorem dfind_any (s : ByteArray) (w : World) (p b : Nat) (t : TreeB) (hT : DTree w p b t) (ht : Fair t) (hs : s.size ≤ maxLen) :
 Calls Tryz.prog 22 #[.pointer (some ⟨p, 0, none⟩), .string s] w fun e w' => e = .returned (.tuple #[.int .i64 (outW2 t (findB t s)).1, errV (outW2 t (findB t s)).2]) ∧ Below w.heap.size w w' := by
 have HX : Hid (Calls Tryz.prog 44 _ _ _) := nsplit_any s w hs
 have cp := split_code s
 have sp := split_small s
 have HU : Hid (findB t s = if (splitB s).2 ≠ 0 then .error (splitB s).2 else walkB t 0 (splitB s).1) := by
  show findB t s = _
  unfold findB
  rw [ht.rootP]
 obtain ⟨⟨a, e⟩, he⟩ : ∃ x, splitB s = x := ⟨_, rfl⟩
 rw [he] at HX cp sp HU
 simp only at HX cp sp HU
 have HT : Hid (DTree w p b t ∧ Fair t ∧ a.length ≤ 6) := ⟨hT, ht, sp.1⟩
 obtain ⟨q, hq⟩ : ∃ q, findB t s = q := ⟨_, rfl⟩
 rw [hq] at HU ⊢
 clear hs he sp hT ht hq
 rcases cp with hp0 | ⟨hp0, _⟩
 · subst hp0
   have e0 : errV 0 = .nilIface := rfl
   rw [e0] at HX
   have HR : Hid (q = walkB t 0 a) := by show _ = _; rw [HU.out, if_neg (by simp)]
   clear e0 HU
   go_enter Tryz.func22, Tryz.ntmps22
   go_wp2_with fail
   go_at_call 44
   refine HX.out.mono ?_
   rintro e1 w1 ⟨r1, rfl, hr1, hb1⟩
   have H1 : Hid (Sees w1 r1 (strs a) ∧ Below w.heap.size w w1) := ⟨hr1, hb1⟩
   have HM : Hid (Calls Tryz.prog 32 _ _ _) := dmade_any w1 p b t (HT.out.1.below hb1)
   have HFo : Hid (Calls Tryz.prog 45 _ _ _) := dfollow_any r1 a w1 p b t (HT.out.1.below hb1) HT.out.2.1 hr1 (by have := HT.out.2.2; omega)
   clear hr1 hb1 HX
   go_wp2_with fail
   go_at_call 32
   refine HM.out.mono ?_
   rintro e2 w2 ⟨rfl, h2⟩
   have h2 := h2.symm
   subst h2
   clear HM
   go_wp2_with fail
   go_at_call 45
   refine HFo.out.mono ?_
   rintro e2 w2 ⟨rfl, hb2⟩
   have H2 : Hid (Below w.heap.size w w2) := bel2v H1.out.2 hb2
   clear HFo hb2 H1
   go_wp2
   go_ret2
   rw [HR.out]
   exact ⟨rfl, H2.out⟩
 · have HE : errV e = .iface 80 (.int .i64 e) := by unfold errV; rw [if_neg hp0]
   have HE2 : Hid (errV e = .iface 80 (.int .i64 e)) := HE
   have HR : Hid (q = .error e) := by show _ = _; rw [HU.out, if_pos hp0]
   rw [HE] at HX
   clear HU hp0 HE
   go_enter Tryz.func22, Tryz.ntmps22
   go_wp2_with fail
   go_at_call 44
   refine HX.out.mono ?_
   rintro e1 w1 ⟨r1, rfl, hr1, hb1⟩
   have H1 : Hid (Below w.heap.size w w1) := hb1
   clear hr1 hb1 HX
   go_wp2
   go_ret2
   rw [HR.out]
   exact ⟨by simp only [outW2]; rw [HE2.out]; rfl, H1.out⟩
end Go.Proofs.YtbebgobboccjcaaGreatDoor
namespace Go.Proofs.YtbebgobboccjcaaGreatDoor
open Go.RowKit Kit
set_option linter.unusedVariables false

theorem infoU8 : (Tryz.prog.info? 5).map (fun i => (i.zero, i.size, i.bytes)) = some (some (.int .u8 0), 1, 1) := by kernel_rfl
theorem sizeU8 : (Tryz.prog.info? 5).map (·.size) = some 1 := by kernel_rfl
theorem made_list (n : Nat) : (madeCells #[Value.int .u8 0] n).toList = List.replicate n (.int .u8 0) := by
 apply List.ext_getElem?
 intro i
 by_cases h : i < n
 · simp [madeCells, h, Nat.mod_one]
 · simp [madeCells, h]
theorem made_arr (n : Nat) : madeCells #[Value.int .u8 0] n = (List.replicate n (Value.int .u8 0)).toArray := by
 rw [← made_list n]
set_option maxRecDepth 4000 in
set_option maxHeartbeats 4000000 in
theorem dslclone_any (s : ByteArray) (w : World) (hs : s.size ≤ 1000) : Calls Tryz.prog 107 #[.string s] w fun e w' => e = .returned (.string s) ∧ Below w.heap.size w w' := by
 by_cases h0 : s.size = 0
 · have e : s = ⟨#[]⟩ := by
    cases s with
    | mk d => have : d.size = 0 := h0; rw [Array.eq_empty_of_size_eq_zero this]
   subst e
   go_enter Tryz.func107, Tryz.ntmps107
   go_wp2
   go_ret
   exact ⟨rfl, Below.refl _ _⟩
 · have h1 := run_make_row' (P := Tryz.prog) 33 5 (.int .u8 0) 1 Tryz.underlying33 infoU8 rfl .i64 .i64 s.size (by omega) (by omega) w
   obtain ⟨W1, hW1⟩ : ∃ W, W = w.alloc (.cells (madeCells #[.int .u8 0] s.size) 5) := ⟨_, rfl⟩
   rw [← hW1] at h1
   have hg1 : W1.heap[w.heap.size]? = some (.cells (madeCells #[.int .u8 0] s.size) 5 (0, 0)) := by rw [hW1]; exact (MapKept.heap_alloc w _).1
   have h2 := fun ty => Lib.run_copy_row_string (P := Tryz.prog) W1 33 9 ty 5 w.heap.size 0 s.size s.size s _ 5 Tryz.underlying33 sizeU8 hg1 (Nat.le_refl _) (by rw [made_arr, List.size_toArray, List.length_replicate]; omega)
   obtain ⟨W2, hW2⟩ : ∃ W, W = W1.setRow w.heap.size ((madeCells #[Value.int .u8 0] s.size).toList.take 0 ++ Lib.byteCells s.data.toList ++ (madeCells #[Value.int .u8 0] s.size).toList.drop (0 + s.size)).toArray := ⟨_, rfl⟩
   rw [← hW2] at h2
   have hsz : s.data.toList.length = s.size := by rw [Array.length_toList]; rfl
   have hg2 : W2.heap[w.heap.size]? = some (.cells (Lib.byteCells s.data.toList).toArray 5 (0, 0)) := by
    rw [hW2, setRow_heap _ _ _ _ _ _ hg1, made_list]
    simp
   have h3 := fun ty => Lib.run_unsafeString_row (P := Tryz.prog) W2 192 3 ty 5 Tryz.underlying192 (by kernel_rfl) w.heap.size s.size (by simp [World.shape?, hg2, Lib.byteCells_length, hsz]) s.data.toList (by intro e; rw [e] at hsz; simp at hsz; omega) (by omega) (by omega) (fun j x hx => by
    have hj : j < (Lib.byteCells s.data.toList).length := by rw [Lib.byteCells_length]; exact (List.getElem?_eq_some_iff.1 hx).1
    rw [Addr.add_lit]
    simp only [World.cell?, hg2, Nat.zero_add]
    simp [Lib.byteCells, hx])
   rw [hsz] at h3
   have es : (⟨s.data.toList.toArray⟩ : ByteArray) = s := by cases s; simp
   rw [es] at h3
   have HB : Hid (Below w.heap.size w (W2.freeze ⟨w.heap.size, 0, none⟩ s.size)) := by
    show Below w.heap.size w (W2.freeze ⟨w.heap.size, 0, none⟩ s.size)
    refine Lib.below_freeze (B := w.heap.size) (p := ⟨w.heap.size, 0, none⟩) ?_ (by exact Nat.le_refl _) _
    rw [hW2]
    refine below_setRow ?_ (Nat.le_refl _) _
    rw [hW1]
    exact (Below.refl _ _).alloc (Nat.le_refl _) _
   obtain ⟨W3, hW3⟩ : ∃ W, W = W2.freeze ⟨w.heap.size, 0, none⟩ s.size := ⟨_, rfl⟩
   rw [← hW3] at h3 HB
   have hz : ((s.size : Int) == 0) = false := beq_eq_false_iff_ne.2 (by omega)
   have hp : (0 : Int) < (s.size : Int) := by omega
   have hp2 : (s.size : Int) ≤ 1000 := by omega
   simp only [goInt] at h2
   clear hW1 hW2 hW3 hg1 hg2 es hsz
   go_enter Tryz.func107, Tryz.ntmps107
   go_wp2
   go_ret
   exact ⟨rfl, HB.out⟩
set_option maxRecDepth 4000 in
set_option maxHeartbeats 4000000 in
theorem dsclone_any (s : ByteArray) (w : World) (hs : s.size ≤ 1000) : Calls Tryz.prog 70 #[.string s] w fun e w' => e = .returned (.string s) ∧ Below w.heap.size w w' := by
 have HX : Hid (Calls Tryz.prog 107 _ _ _) := dslclone_any s w hs
 go_enter Tryz.func70, Tryz.ntmps70
 go_wp2_with (go_at_call 107; refine HX.out.mono ?_; rintro e w' ⟨rfl, hb⟩)
 go_ret
 exact ⟨rfl, hb⟩
theorem run_copy_sp (w : World) (sp : Option Addr) (dLen dCap sLen sCap : Nat) (g off : Nat) (cur : List Value) (hg : w.heap[g]? = some (.cells cur.toArray 5 (0, 0))) (cs : List Value) (hn : cs.length = Nat.min sLen dLen)
 (hpos : 0 < cs.length → ∃ ad, sp = some ad ∧ ∀ j v, cs[j]? = some v → w.cell? (ad.add j) = some v)
 (hfit : off + cs.length ≤ cur.length) (h1 : ∀ v ∈ cs, v.oneCell' = true) (B : Nat) (w0 : World) (hb : Below B w0 w) (hBg : B ≤ g) :
 ∃ w', (Builtin.copy_ #[33, 33] 3 #[.slice (some ⟨g, off, none⟩) dLen dCap, .slice sp sLen sCap]).run Tryz.prog w = .ok (.int .i64 (cs.length : Int)) w' ∧ w'.heap[g]? = some (.cells (splice cur off cs).toArray 5 (0, 0)) ∧ Below B w0 w' := by
 by_cases h0 : cs.length = 0
 · obtain rfl : cs = [] := List.eq_nil_of_length_eq_zero h0
   exact ⟨w, run_copy_none (P := Tryz.prog) w 33 33 3 5 _ sp dLen dCap sLen sCap Tryz.underlying33 sizeU8 (by simpa using hn.symm), by simpa [splice] using hg, hb⟩
 · obtain ⟨ad, rfl, hsrc⟩ := hpos (by omega)
   refine ⟨_, run_copy_row (P := Tryz.prog) w 33 33 3 5 g off dLen dCap ad sLen sCap cur.toArray 5 cs Tryz.underlying33 sizeU8 hg hn hsrc (by simpa using hfit) h1, ?_, below_setRow hb hBg _⟩
   simpa [splice] using setRow_heap w g _ _ 5 _ hg
theorem splice_bytes (l : List Int) (n : Nat) : splice (List.replicate n (Value.int .u8 0)) 0 ((intsV .u8 l).take n) = intsV .u8 (bytesB l n) := by
 unfold splice bytesB intsV
 simp only [List.take_zero, List.nil_append, Nat.zero_add, List.map_append, List.map_take, List.map_replicate]
 congr 1
 rw [List.drop_replicate, List.length_take, List.length_map]
 congr 1
 omega
theorem ints_one (k : IntKind) (l : List Int) : ∀ v ∈ intsV k l, v.oneCell' = true := by
 intro v hv
 unfold intsV at hv
 obtain ⟨x, _, rfl⟩ := List.mem_map.1 hv
 rfl
set_option maxRecDepth 4000 in
set_option maxHeartbeats 4000000 in
theorem dsized_any (dv : Value) (l : List Int) (n : Nat) (w : World) (hd : Sees w dv (intsV .u8 l)) (hn : n ≤ 2000) :
 Calls Tryz.prog 105 #[dv, .int .i64 (n : Int)] w fun e w' => e = .returned (.slice (some ⟨w.heap.size, 0, none⟩) n n) ∧ w'.heap[w.heap.size]? = some (.cells (intsV .u8 (bytesB l n)).toArray 5 (0, 0)) ∧ Below w.heap.size w w' := by
 obtain ⟨ao, cap, rfl, h1, h2, h3, h4⟩ := hd
 rw [intsV_len] at h1 h4 ⊢
 have hm := run_make_row' (P := Tryz.prog) 33 5 (.int .u8 0) 1 Tryz.underlying33 infoU8 rfl .i64 .i64 n (by omega) (by omega) w
 obtain ⟨W1, hW1⟩ : ∃ W, W = w.alloc (.cells (madeCells #[.int .u8 0] n) 5) := ⟨_, rfl⟩
 rw [← hW1] at hm
 have H1 : Hid (W1.heap[w.heap.size]? = some (.cells (List.replicate n (Value.int .u8 0)).toArray 5 (0, 0)) ∧ Below w.heap.size w W1) := by
  rw [hW1, made_arr]
  exact ⟨(MapKept.heap_alloc w _).1, (Below.refl _ _).alloc (Nat.le_refl _) _⟩
 have HP : Hid (0 < ((intsV .u8 l).take n).length → ∃ ad, ao = some ad ∧ ∀ j v, ((intsV .u8 l).take n)[j]? = some v → W1.cell? (ad.add j) = some v) := fun h0 => by
  have hl0 : 0 < l.length := by rw [List.length_take, intsV_len] at h0; omega
  obtain ⟨b, off, e, hb, hh⟩ := h4 hl0
  refine ⟨_, e, fun j v hj => ?_⟩
  rw [Addr.add_lit, H1.out.2.cell (by exact hb)]
  rw [List.getElem?_take] at hj
  split at hj
  · exact hh j v hj
  · cases hj
 have HC : Hid (((intsV .u8 l).take n).length = Nat.min l.length n ∧ 0 + ((intsV .u8 l).take n).length ≤ (List.replicate n (Value.int .u8 0)).length ∧ ∀ v ∈ (intsV .u8 l).take n, v.oneCell' = true) := by
  refine ⟨by rw [List.length_take, intsV_len]; exact Nat.min_comm _ _, by rw [List.length_take, List.length_replicate]; omega, fun v hv => ints_one .u8 l v (List.mem_of_mem_take hv)⟩
 obtain ⟨cs, hcs⟩ : ∃ cs, (intsV .u8 l).take n = cs := ⟨_, rfl⟩
 have HSP : Hid (splice (List.replicate n (Value.int .u8 0)) 0 cs = intsV .u8 (bytesB l n)) := by show _ = _; rw [← hcs]; exact splice_bytes l n
 rw [hcs] at HP HC
 obtain ⟨cur, hcur⟩ : ∃ cur, List.replicate n (Value.int .u8 0) = cur := ⟨_, rfl⟩
 rw [hcur] at H1 HC HSP
 have ni : (n : Int) ≤ 2000 := by omega
 have n0 : (0 : Int) ≤ (n : Int) := by omega
 obtain ⟨w2, hcp, hg2, hb2⟩ := run_copy_sp W1 ao n n l.length cap w.heap.size 0 cur H1.out.1 cs HC.out.1 HP.out HC.out.2.1 HC.out.2.2 w.heap.size w H1.out.2 (Nat.le_refl _)
 have HG : Hid (w2.heap[w.heap.size]? = some (.cells (splice cur 0 cs).toArray 5 (0, 0)) ∧ Below w.heap.size w w2) := ⟨hg2, hb2⟩
 clear h1 h2 h3 h4 hW1 hcs hcur hg2 hb2 HP HC
 go_enter Tryz.func105, Tryz.ntmps105
 go_wp2
 go_ret
 refine ⟨rfl, ?_, HG.out.2⟩
 rw [← HSP.out]
 exact HG.out.1
theorem splice_laid (b d : List Int) (off : Nat) (h : off + d.length ≤ b.length) : splice (intsV .u8 b) off (intsV .u8 d) = intsV .u8 (laidB b off d) := by
 unfold splice laidB intsV
 simp [List.append_assoc]
set_option maxRecDepth 4000 in
set_option maxHeartbeats 4000000 in
theorem dwritten_any (dv mv : Value) (l m : List Int) (off : Nat) (w : World) (hd : Sees w dv (intsV .u8 l)) (hm : Sees w mv (intsV .u8 m)) (hl : l.length ≤ 2000) (ho : off + m.length ≤ 2000) :
 Calls Tryz.prog 104 #[dv, .int .i64 (off : Int), mv] w fun e w' => ∃ v, e = .returned v ∧ Sees w' v (intsV .u8 (if m.length = 0 then l else laidB (bytesB l (max l.length (off + m.length))) off m)) ∧ Below w.heap.size w w' := by
 have hd0 := hd
 obtain ⟨mo, mc, rfl, k1, k2, k3, k4⟩ := hm
 rw [intsV_len] at k1 k4 ⊢
 by_cases h0 : m.length = 0
 · rw [if_pos h0, h0]
   have HD : Hid (Sees w dv (intsV .u8 l)) := hd
   obtain ⟨ao, cap, hdv, hjunk⟩ := hd
   subst hdv
   clear hjunk
   clear k1 k2 k3 k4 hd0
   go_enter Tryz.func104, Tryz.ntmps104
   go_wp2
   go_ret
   exact ⟨_, rfl, HD.out, Below.refl _ _⟩
 · rw [if_neg h0]
   have HX : Hid (Calls Tryz.prog 105 _ _ _) := dsized_any dv l (max l.length (off + m.length)) w hd (by omega)
   obtain ⟨ao, cap, hdv, hjunk⟩ := hd
   subst hdv
   clear hjunk
   obtain ⟨N, hN⟩ : ∃ N, max l.length (off + m.length) = N := ⟨_, rfl⟩
   rw [hN] at HX ⊢
   rw [intsV_len] at HX ⊢
   obtain ⟨mb, mf, hmo, hmb, hmh⟩ := k4 (by omega)
   subst hmo
   clear k4
   have HM : Hid (∀ W, Below w.heap.size w W → ∀ j v, (intsV .u8 m)[j]? = some v → W.cell? ((⟨mb, mf, none⟩ : Addr).add j) = some v) := fun W hW j v hj => by
    rw [Addr.add_lit, hW.cell (by exact hmb)]
    exact hmh j v hj
   have HL : Hid (off + m.length ≤ N ∧ (bytesB l N).length = N) := ⟨by omega, bytesB_len l N⟩
   have hNi : ((max l.length (off + m.length) : Nat) : Int) = (N : Int) := by rw [hN]
   have hmx : max (l.length : Int) ((off : Int) + (m.length : Int)) = (N : Int) := by omega
   have mz : ((m.length : Int) == 0) = false := beq_eq_false_iff_ne.2 (by omega)
   have m1 : (m.length : Int) ≤ 2000 := by omega
   have o1 : (off : Int) ≤ 2000 := by omega
   have oN : (off : Int) ≤ (N : Int) := by omega
   clear k1 k2 k3 hd0 hN hNi hmh
   go_enter Tryz.func104, Tryz.ntmps104
   go_wp2_with fail
   go_at_call 105
   refine HX.out.mono ?_
   rintro e w1 ⟨rfl, hg1, hb1⟩
   have H1 : Hid (w1.heap[w.heap.size]? = some (.cells (intsV .u8 (bytesB l N)).toArray 5 (0, 0)) ∧ Below w.heap.size w w1) := ⟨hg1, hb1⟩
   have HP : Hid (0 < (intsV .u8 m).length → ∃ ad, some (⟨mb, mf, none⟩ : Addr) = some ad ∧ ∀ j v, (intsV .u8 m)[j]? = some v → w1.cell? (ad.add j) = some v) := fun _ => ⟨_, rfl, HM.out w1 hb1⟩
   have HC : Hid ((intsV .u8 m).length = Nat.min m.length (N - off) ∧ off + (intsV .u8 m).length ≤ (intsV .u8 (bytesB l N)).length ∧ ∀ v ∈ intsV .u8 m, v.oneCell' = true) := by
    have := HL.out
    refine ⟨?_, by rw [intsV_len, intsV_len]; omega, ints_one .u8 m⟩
    rw [intsV_len]
    have : Nat.min m.length (N - off) = m.length := Nat.min_eq_left (by omega)
    rw [this]
   have HSP : Hid (splice (intsV .u8 (bytesB l N)) off (intsV .u8 m) = intsV .u8 (laidB (bytesB l N) off m)) := splice_laid _ _ _ (by have := HL.out; omega)
   have HLN : Hid ((laidB (bytesB l N) off m).length = N) := by
    have := HL.out
    show _ = _
    rw [laidB_len _ _ _ (by omega), this.2]
   obtain ⟨cs, hcs⟩ : ∃ cs, intsV .u8 m = cs := ⟨_, rfl⟩
   obtain ⟨cur, hcur⟩ : ∃ cur, intsV .u8 (bytesB l N) = cur := ⟨_, rfl⟩
   rw [hcs] at HP HC HSP
   rw [hcur] at H1 HC HSP
   obtain ⟨w2, hcp, hg2, hb2⟩ := run_copy_sp w1 (some ⟨mb, mf, none⟩) (N - off) (N - off) m.length mc w.heap.size off cur H1.out.1 cs HC.out.1 HP.out HC.out.2.1 HC.out.2.2 w.heap.size w H1.out.2 (Nat.le_refl _)
   have HG : Hid (w2.heap[w.heap.size]? = some (.cells (splice cur off cs).toArray 5 (0, 0)) ∧ Below w.heap.size w w2) := ⟨hg2, hb2⟩
   clear hg1 hb1 HX HM hcs hcur hg2 hb2 HP HC
   go_wp2
   go_ret
   refine ⟨_, rfl, ?_, HG.out.2⟩
   have hg3 := HG.out.1
   rw [HSP.out] at hg3
   have hl3 : w.heap.size < w2.heap.size := (Array.getElem?_eq_some_iff.1 hg3).1
   have hLN := HLN.out
   refine ⟨some ⟨w.heap.size, 0, none⟩, N, by rw [intsV_len, hLN]; rfl, by rw [intsV_len, hLN]; exact Nat.le_refl _, by unfold maxLen; omega, by simp, fun _ => ⟨w.heap.size, 0, rfl, hl3, fun i x hx => ?_⟩⟩
   simp only [World.cell?, hg3, Nat.zero_add]
   simpa using hx
end Go.Proofs.YtbebgobboccjcaaGreatDoor
namespace Go.Proofs.YtbebgobboccjcaaGreatDoor
open Go.RowKit Kit
set_option linter.unusedVariables false

theorem infoSl : (Tryz.prog.info? 97).map (fun i => (i.zero, i.size, i.bytes)) = some (some (.agg #[.string ⟨#[]⟩, .int .i64 0]), 2, 24) := by kernel_rfl
def RowS (w : World) (base : Nat) (v : Value) (ps : List (ByteArray × Int)) : Prop := w.ownsRow base 97 2 v ps.length (flatS ps)
theorem RowS.sees {w : World} {base : Nat} {v : Value} {ps : List (ByteArray × Int)} (h : RowS w base v ps) : SeesS w v ps := by
 have h0 := h
 unfold RowS at h
 obtain ⟨h1, h2⟩ := h
 rcases h2 with ⟨h2, h3⟩ | ⟨g, cap, cur, hv, hg, hh, hn, hm, _, _⟩
 · exact ⟨none, 0, by rw [h3]; exact h2, by omega, by simp, fun _ => rfl, fun h => absurd h (by omega)⟩
 · refine ⟨_, cap, hv, hn, hm, by simp, fun _ => ⟨g, 0, rfl, (Array.getElem?_eq_some_iff.1 hh).1, fun i x hx => ?_⟩⟩
   subst hv
   unfold RowS at h0
   have hi := (List.getElem?_eq_some_iff.1 hx).1
   rw [flatS_len] at hi
   rw [Nat.zero_add, h0.cellAt i (by omega)]
   exact hx
theorem RowS.block {w : World} {base : Nat} {v : Value} {ps : List (ByteArray × Int)} (h : RowS w base v ps) : ∀ j, v.ownBlock = some j → base ≤ j := by
 intro j hj
 unfold RowS at h
 exact (h.lt j hj).1
theorem slots_one (ps : List (ByteArray × Int)) : ∀ u ∈ flatS ps, u.oneCell' = true := by
 intro u hu
 unfold flatS at hu
 obtain ⟨p, _, hp⟩ := List.mem_flatMap.1 hu
 simp [slotC] at hp
 rcases hp with rfl | rfl <;> rfl
set_option maxRecDepth 4000 in
theorem wpList_appP {ops : Array Oper} {rest : List Oper} {o : Oper} {a : Act} {Q : Exit → Act → World → Prop} {w : World} (hgd : o.guard = none) (s x : Operand)
 (ho : o.op = .call { callee := .builtin .append, args := #[s, x], argTypes := #[68, 68] }) (base : Nat) (v : Value) (xs : List (ByteArray × Int)) (hs : a.eval s = v) (hown : RowS w base v xs)
 (y : Value) (news : List (ByteArray × Int)) (hx : a.eval x = y) (hv : SeesS w y news) (hlen : xs.length + news.length ≤ 1000000) (hbase : base ≤ w.heap.size)
 (h : ∀ v' w', RowS w' base v' (xs ++ news) → w.grownBy w' v.ownBlock → wpList Tryz.prog ops Q rest (a.put o.dst v') w') : wpList Tryz.prog ops Q (o :: rest) a w := by
 obtain ⟨i0, hi, hz0, hz1, hz2⟩ := info_partsV infoSl
 obtain ⟨ao, cap, rfl, h1, h2, h3, h4⟩ := hv
 cases ao with
 | none =>
   have hc := h3 rfl
   have hn : news = [] := List.eq_nil_of_length_eq_zero (by omega)
   subst hn
   subst hc
   refine wpList_append_own_none hgd s x 68 ho base 97 i0 2 Tryz.underlying68 hi v xs.length (flatS xs) hs hown hx (h v w ?_ ⟨rfl, rfl, rfl, Nat.le_refl _, fun _ _ _ => rfl⟩)
   rw [List.append_nil]; exact hown
 | some ad =>
   refine wpList_appS Tryz.underlying68 infoSl (by rfl) (by omega) hgd s x ho base v xs.length (flatS xs) hs hown ad news.length cap (flatS news) hx (flatS_len news) ?_ (slots_one news) (by unfold maxLen; omega) (by omega) hbase ?_
   · intro j u hj
     have hj' : j < (flatS news).length := (List.getElem?_eq_some_iff.1 hj).1
     rw [flatS_len] at hj'
     obtain ⟨b, off, e, _, hh⟩ := h4 (by omega)
     cases e
     rw [Addr.add_lit]
     exact hh j u hj
   · intro v' w' k1 k2
     refine h v' w' ?_ k2
     unfold RowS
     rw [List.length_append, flatS_append]; exact k1
set_option maxRecDepth 4000 in
theorem dgrow_any (n : Nat) (w : World) (hn : n ≤ 1000000) : Calls Tryz.prog 147 #[.slice none 0 0, .int .i64 (n : Int)] w fun e w' => ∃ v, e = .returned v ∧ RowS w' w.heap.size v [] ∧ Below w.heap.size w w' := by
 obtain ⟨i0, hi, hz0, hz1, hz2⟩ := info_partsV infoSl
 by_cases h0 : n = 0
 · subst h0
   refine (Any8.slices_Grow_room Tryz.growS none 0 0 0 w (by omega) (by omega) (by omega) (by omega)).mono ?_
   rintro e w' ⟨rfl, rfl⟩
   exact ⟨_, rfl, World.ownsRow_nil _ _ _ _, Below.refl _ _⟩
 · refine (Any8.slices_Grow_grow Tryz.growS i0 (.agg #[.string ⟨#[]⟩, .int .i64 0]) hi hz0 (by omega) none 0 0 n [] w (by omega) (by omega) (by rw [hz2]; omega) (by omega) (by simp) (fun _ => rfl) (fun a h => by cases h)).mono ?_
   rintro e w' ⟨rfl, rfl⟩
   refine ⟨_, rfl, ?_, (Below.refl _ w).drew.alloc (Nat.le_refl _) _⟩
   have hg : n ≤ grownCap w (0 + n) 0 97 := by have := grownCap_ge w (0 + n) 0 97; omega
   have hm := grownCap_le_maxLen w (0 + n) 0 97 (by unfold maxLen; omega)
   unfold RowS
   have := World.ownsRow_made (base := w.heap.size) (e := 97) (size := 2) w.drew (((([] : List Value).toArray ++ Builtin.zeroCells (Value.agg #[.string ⟨#[]⟩, .int .i64 0]).cells (0 + n - 0) ++ Builtin.zeroCells (Value.agg #[.string ⟨#[]⟩, .int .i64 0]).cells (grownCap w (0 + n) 0 97 - (0 + n))))) (grownCap w (0 + n) 0 97) (Nat.le_refl _) hm (by
    rw [Nat.zero_add] at hg
    simp [Builtin.zeroCells, Value.cells]
    omega)
   exact this
def tot2 (pss : List (List (ByteArray × Int))) (j : Nat) : Nat := ((pss.take j).map List.length).sum
theorem tot2_succ (pss : List (List (ByteArray × Int))) (j : Nat) (h : j < pss.length) : tot2 pss (j + 1) = tot2 pss j + pss[j].length := by
 unfold tot2
 rw [List.take_succ_eq_append_getElem h, List.map_append, List.sum_append]
 simp
theorem tot2_le (pss : List (List (ByteArray × Int))) (j : Nat) : tot2 pss j ≤ (pss.map List.length).sum := by
 unfold tot2
 have : (pss.map List.length).sum = ((pss.take j).map List.length).sum + ((pss.drop j).map List.length).sum := by
  rw [← List.sum_append, ← List.map_append, List.take_append_drop]
 omega
theorem flat_take_len (pss : List (List (ByteArray × Int))) (j : Nat) : (pss.take j).flatten.length = tot2 pss j := by
 unfold tot2
 rw [List.length_flatten]
set_option maxRecDepth 4000 in
set_option maxHeartbeats 8000000 in
theorem dconcat_any (v : Value) (vs : List Value) (pss : List (List (ByteArray × Int))) (w : World) (hv : Sees w v vs) (hl : vs.length = pss.length) (hn : pss.length ≤ 1000) (hs : ∀ j (h1 : j < vs.length) (h2 : j < pss.length), SeesS w vs[j] pss[j]) (hsz : (pss.map List.length).sum ≤ 1000000) :
 Calls Tryz.prog 129 #[v] w fun e w' => ∃ r, e = .returned r ∧ RowS w' w.heap.size r pss.flatten ∧ Below w.heap.size w w' := by
 obtain ⟨ao, cap, rfl, h1, h2, h3, h4⟩ := hv
 rw [hl] at h1 h4 ⊢
 have H4 : Hid (0 < pss.length → _) := h4
 have HS : Hid (∀ j (h1 : j < vs.length) (h2 : j < pss.length), SeesS w vs[j] pss[j]) := hs
 have HL : Hid (vs.length = pss.length) := hl
 have HT : Hid (∀ j, tot2 pss j ≤ 1000000) := fun j => Nat.le_trans (tot2_le pss j) hsz
 have HTF : Hid (tot2 pss pss.length = (pss.map List.length).sum) := by show _ = _; unfold tot2; rw [List.take_length]
 have lm : (pss.length : Int) ≤ 1000 := by omega
 clear h1 h2 h3 h4 hl hs hsz
 -- what one round reads
 have HR : Hid (∀ j (hj : j < pss.length) W, Below w.heap.size w W → ∃ g off so n sc, ao = some ⟨g, off, none⟩ ∧ n = pss[j].length ∧ W.cell? ⟨g, off + j, none⟩ = some (.slice so n sc) ∧ SeesS W (.slice so n sc) pss[j] ∧ vs[j]'(by rw [HL.out]; exact hj) = .slice so n sc) := fun j hj W hW => by
  obtain ⟨g, off, hao, hg, hc⟩ := H4.out (by omega)
  have hj2 : j < vs.length := by rw [HL.out]; exact hj
  have hse := HS.out j hj2 hj
  obtain ⟨so, sc, e, r⟩ := id hse
  refine ⟨g, off, so, pss[j].length, sc, hao, rfl, ?_, ?_, e⟩
  · rw [← e]
    exact (hW.cell (by exact hg)).trans (hc j _ (List.getElem?_eq_getElem hj2))
  · rw [← e]; exact hse.below hW
 clear H4 HS
 go_enter Tryz.func129, Tryz.ntmps129
 go_wp2
 go_loopw [3, 11] (fun s3 s11 wr => ∃ j : Nat, j ≤ pss.length ∧ s11 = .int .i64 (j : Int) ∧ s3 = .int .i64 ((tot2 pss j : Nat) : Int) ∧ wr = w) (fun _ s11 _ => pss.length - (intOf s11).toNat)
 case atStart => exact ⟨0, Nat.zero_le _, rfl, rfl, rfl⟩
 case round =>
  obtain ⟨j, hj, rfl, rfl, rfl⟩ := hrel
  by_cases hlt : j < pss.length
  · obtain ⟨g, off, so, n, sc, hao, hn2, hc, _, _⟩ := HR.out j hlt wr (Below.refl _ _)
    subst hao
    have h1 := tot2_succ pss j hlt
    rw [← hn2] at h1
    have h2 := HT.out (j + 1)
    have h3 := HT.out j
    obtain ⟨a, ha⟩ : ∃ a, tot2 pss j = a := ⟨_, rfl⟩
    rw [ha] at h1 h3 ⊢
    have HA : Hid (tot2 pss (j + 1) = a + n) := h1
    have m1 : (a : Int) + (n : Int) ≤ 1000000 := by omega
    have m0 : ¬ ((a : Int) + (n : Int) < 0) := by omega
    have ji : (j : Int) < (pss.length : Int) := by omega
    clear h1 h2 h3 ha hn2
    go_wp2
    go_roundw
    case rel => exact ⟨j + 1, by omega, by simp, by rw [HA.out]; simp, by simp⟩
    case measure => simp [intOf]; omega
  · have ej : j = pss.length := by omega
    subst ej
    have HG : Hid (Calls Tryz.prog 147 _ _ _) := dgrow_any (tot2 pss pss.length) wr (HT.out _)
    go_wp2_with fail
    go_at_call 147
    refine HG.out.mono ?_
    rintro e w1 ⟨v1, rfl, hr1, hb1⟩
    have H1 : Hid (RowS w1 wr.heap.size v1 [] ∧ Below wr.heap.size wr w1) := ⟨hr1, hb1⟩
    clear hr1 hb1 HG
    obtain ⟨w0, hw0⟩ : ∃ z, z = wr := ⟨_, rfl⟩
    subst hw0
    go_wp2
    go_loopw [6, 27] (fun s6 s27 wr => ∃ j : Nat, j ≤ pss.length ∧ s27 = .int .i64 (j : Int) ∧ Hid (RowS wr w0.heap.size s6 (pss.take j).flatten ∧ Below w0.heap.size w0 wr)) (fun _ s27 _ => pss.length - (intOf s27).toNat)
    case atStart => exact ⟨0, Nat.zero_le _, rfl, H1.out⟩
    case round =>
     obtain ⟨j, hj, rfl, HI⟩ := hrel
     by_cases hlt : j < pss.length
     · obtain ⟨g, off, so, n, sc, hao, hn2, hc, hse, _⟩ := HR.out j hlt wr HI.out.2
       subst hao
       have ji : (j : Int) < (pss.length : Int) := by omega
       have HSE : Hid (SeesS wr (.slice so n sc) pss[j]) := hse
       have HN : Hid ((pss.take j).flatten.length + pss[j].length ≤ 1000000) := by
        have h1 := tot2_succ pss j hlt
        have h2 := HT.out (j + 1)
        rw [flat_take_len]
        show _ ≤ _
        omega
       have HTK : Hid ((pss.take (j + 1)).flatten = (pss.take j).flatten ++ pss[j]) := by
        show _ = _
        rw [List.take_succ_eq_append_getElem hlt, List.flatten_append]
        simp
       clear hn2 hse
       go_wp2_with (at_builtin; refine wpList_appP rfl _ _ rfl w0.heap.size _ _ rfl HI.out.1 _ _ rfl HSE.out HN.out HI.out.2.size ?_; intro v' w' k1 k2)
       have HK : Hid (RowS w' w0.heap.size v' (pss.take (j + 1)).flatten ∧ Below w0.heap.size w0 w') := ⟨by rw [HTK.out]; exact k1, HI.out.2.grown k2 HI.out.2.size HI.out.1.block⟩
       clear k1 k2
       go_wp2
       go_roundw
       case rel => exact ⟨j + 1, by omega, by simp, HK⟩
       case measure => simp [intOf]; omega
     · have ej : j = pss.length := by omega
       subst ej
       go_wp2
       go_ret
       refine ⟨_, rfl, ?_, HI.out.2⟩
       have := HI.out.1
       rw [List.take_length] at this
       exact this
end Go.Proofs.YtbebgobboccjcaaGreatDoor
namespace Go.Proofs.YtbebgobboccjcaaGreatDoor
open Go.RowKit Kit
set_option linter.unusedVariables false

abbrev Shp := Int × Option Addr × Nat × Nat × Option Addr × Nat × Nat
def mkN (q : Shp) : Value := .agg #[.int .i64 q.1, .slice q.2.1 q.2.2.1 q.2.2.2.1, .slice q.2.2.2.2.1 q.2.2.2.2.2.1 q.2.2.2.2.2.2]
def leftSum (ds : List DN) (left : Lit → Bool) (i : Int) : Nat := (ds.map fun f => if left (.int .i64 f.n.ino) then f.n.inos.count i else 0).sum
theorem leftSum_all {ds : List DN} {left : Lit → Bool} {i : Int} (h : ∀ f ∈ ds, left (.int .i64 f.n.ino) = true) : leftSum ds left i = (ds.map fun f => f.n.inos.count i).sum := by
 unfold leftSum
 congr 1
 apply List.map_congr_left
 intro f hf
 rw [h f hf]; rfl
theorem leftSum_none {ds : List DN} {left : Lit → Bool} {i : Int} (h : ∀ f ∈ ds, left (.int .i64 f.n.ino) = false) : leftSum ds left i = 0 := by
 unfold leftSum
 have : (ds.map fun f => if left (.int .i64 f.n.ino) then f.n.inos.count i else 0) = ds.map fun _ => 0 := by
  apply List.map_congr_left
  intro f hf
  rw [h f hf]; rfl
 rw [this]
 clear h this
 induction ds with
 | nil => rfl
 | cons a r ih => simp [ih]
theorem leftSum_step : ∀ {ds : List DN} {left : Lit → Bool} {i : Int} {f : DN}, (ds.map DN.ent).Pairwise (fun a b => a.1 < b.1) → f ∈ ds → left (.int .i64 f.n.ino) = true →
 leftSum ds (fun z => left z && !z.sameKey (.int .i64 f.n.ino)) i + f.n.inos.count i = leftSum ds left i
 | a :: r, left, i, f, hp, hf, hl => by
   obtain ⟨h1, h2⟩ := List.pairwise_cons.1 hp
   have e : ∀ (l : Lit → Bool), leftSum (a :: r) l i = (if l (.int .i64 a.n.ino) then a.n.inos.count i else 0) + leftSum r l i := fun l => rfl
   rw [e, e]
   rcases List.mem_cons.1 hf with hf | hf
   · subst hf
     rw [hl]
     have hs : ((Lit.int IntKind.i64 f.n.ino).sameKey (.int .i64 f.n.ino)) = true := by rw [same_int]; simp
     rw [hs]
     have : leftSum r (fun z => left z && !z.sameKey (.int .i64 f.n.ino)) i = leftSum r left i := by
      unfold leftSum
      congr 1
      apply List.map_congr_left
      intro g hg
      have h3 := h1 g.ent (List.mem_map.2 ⟨g, hg, rfl⟩)
      have h3 : f.n.ino < g.n.ino := h3
      have : ((Lit.int IntKind.i64 g.n.ino).sameKey (.int .i64 f.n.ino)) = false := by rw [same_int]; simp; omega
      simp only [this]
      simp
     rw [this]
     simp
     omega
   · have h3 := h1 f.ent (List.mem_map.2 ⟨f, hf, rfl⟩)
     have h3 : a.n.ino < f.n.ino := h3
     have : ((Lit.int IntKind.i64 a.n.ino).sameKey (.int .i64 f.n.ino)) = false := by rw [same_int]; simp; omega
     simp only [this]
     have ih := leftSum_step (i := i) h2 hf hl
     simp only [Bool.not_false, Bool.and_true]
     omega
theorem kids_ds {ds : List DN} {t : TreeB} (h : ds.map DN.n = t.nodes) (i : Int) : kidsB t i = (ds.map fun f => f.n.inos.count i).sum := by
 unfold kidsB
 rw [← h, List.map_map]
 rfl
theorem count_take_succ (l : List Int) (j : Nat) (h : j < l.length) (i : Int) : (l.take (j + 1)).count i = (l.take j).count i + if l[j] = i then 1 else 0 := by
 rw [List.take_succ_eq_append_getElem h, List.count_append, List.count_singleton]
 by_cases e : l[j] = i <;> simp [e]
def linksD (t : TreeB) (i : Int) : Nat := if i = 1 then 1 else kidsB t i
theorem sum_le {α : Type} {f : α → Nat} {c : Nat} : ∀ {l : List α}, (∀ x ∈ l, f x ≤ c) → (l.map f).sum ≤ l.length * c
 | [], _ => by simp
 | a :: r, h => by
   rw [List.map_cons, List.sum_cons, List.length_cons]
   have h1 := h a (by simp)
   have h2 := sum_le (l := r) (fun x hx => h x (by simp [hx]))
   have : (r.length + 1) * c = r.length * c + c := Nat.succ_mul _ _
   omega
theorem Fair.kids_small {t : TreeB} (h : Fair t) (i : Int) : kidsB t i ≤ 610000 := by
 unfold kidsB
 have h1 := sum_le (l := t.nodes) (f := fun n => n.inos.count i) (c := 10000) (fun n hn => by
  have h2 := h.names n hn
  have h3 := (h.each n hn).len
  have h4 : n.inos.count i ≤ n.inos.length := List.count_le_length
  omega)
 have h5 := h.size
 have : t.nodes.length * 10000 ≤ 61 * 10000 := Nat.mul_le_mul_right _ h5
 omega
set_option maxRecDepth 4000 in
set_option maxHeartbeats 8000000 in
theorem dlinks_any (i : Int) (w : World) (p b : Nat) (t : TreeB) (hT : DTree w p b t) (ht : Fair t) :
 Calls Tryz.prog 29 #[.pointer (some ⟨p, 0, none⟩), .int .i64 i] w fun e w' => e = .returned (.int .i64 (linksD t i : Nat)) ∧ Below w.heap.size w w' := by
 have HM : Hid (Calls Tryz.prog 32 _ _ _) := dmade_any w p b t hT
 obtain ⟨ds, hd, hn⟩ := hT
 obtain ⟨c0, _, _⟩ := hd.cells
 by_cases h1 : i = 1
 · subst h1
   have HR : Hid (linksD t 1 = 1) := rfl
   clear hd hn ht
   go_enter Tryz.func29, Tryz.ntmps29
   go_wp2
   go_ret
   exact ⟨by rw [HR.out]; rfl, Below.refl _ _⟩
 · have hi1 : (i == 1) = false := beq_eq_false_iff_ne.2 h1
   have HR : Hid (linksD t i = (ds.map fun f => f.n.inos.count i).sum) := by
    show _ = _
    unfold linksD
    rw [if_neg h1, kids_ds hn]
   have HSM : Hid (linksD t i ≤ 610000) := by
    have := ht.kids_small i
    show linksD t i ≤ _
    unfold linksD
    rw [if_neg h1]; exact this
   obtain ⟨L, hL⟩ : ∃ L, linksD t i = L := ⟨_, rfl⟩
   rw [hL] at HR HSM ⊢
   obtain ⟨w0, hrng, r0, g0, s0⟩ := hd.2.1.range (t := 50) (e := 70) Tryz.underlying3 Tryz.underlying50
   have HW0 : Hid (RangeIs Tryz.prog 3 w0 b w.heap.size (ds.map DN.ent) (Maps.has (entD (ds.map DN.ent))) (ds.map DN.ent).length ∧ Below w.heap.size w w0) := ⟨r0, (Below.refl _ _).grown g0 (Nat.le_refl _) (fun k hk => by cases hk)⟩
   have HD : Hid (DAt w p b ds t.next) := hd
   have HOK : Hid (∀ f ∈ ds, NodeOK f.n ∧ f.n.names.length ≤ 10000) := fun f hf => by
    have hm : f.n ∈ t.nodes := by rw [← hn]; exact List.mem_map.2 ⟨f, hf, rfl⟩
    exact ⟨ht.each _ hm, ht.names _ hm⟩
   have HS : Hid (leftSum ds (Maps.has (entD (ds.map DN.ent))) i = L) := by
    show _ = _
    rw [leftSum_all, HR.out]
    intro f hf
    rw [has_entD]
    have hm : f.ent ∈ ds.map DN.ent := List.mem_map.2 ⟨f, hf, rfl⟩
    unfold getK
    rw [Option.isSome_map, List.find?_isSome]
    exact ⟨f.ent, hm, by show (f.n.ino == f.n.ino) = true; simp⟩
   clear hd hn ht hL r0 g0 s0 HR h1
   go_enter Tryz.func29, Tryz.ntmps29
   go_wp2_with fail
   go_at_call 32
   refine HM.out.mono ?_
   rintro e1 w1 ⟨rfl, h2⟩
   have h2 := h2.symm
   subst h2
   clear HM
   go_wp2
   go_loopw [5] (fun s5 wr => ∃ (c : Nat) (left : Lit → Bool) (cnt : Nat), s5 = .int .i64 (c : Int) ∧ Hid (RangeIs Tryz.prog 3 wr b w.heap.size (ds.map DN.ent) left cnt ∧ Below w.heap.size w wr ∧ c + leftSum ds left i = L)) (fun _ wr => wr.rangeLeft b w.heap.size)
   case atStart => exact ⟨0, _, _, rfl, ⟨HW0.out.1, HW0.out.2, by rw [HS.out]; omega⟩⟩
   case round =>
    obtain ⟨c, left, cnt, rfl, HI⟩ := hrel
    have hrg := HI.out.1
    have inv : ∀ e ∈ ds.map DN.ent, ∃ q : Shp, e.2 = mkN q := by
     intro e he
     obtain ⟨f, hf, rfl⟩ := List.mem_map.1 he
     obtain ⟨da, dc, sa, sc, hfo⟩ := (HD.out.2.2 f hf).form (HOK.out f hf).1
     refine ⟨(f.n.kind, da, f.n.data.length, dc, sa, f.n.names.length, sc), ?_⟩
     show f.val = _
     rw [hfo]; rfl
    have HINV : Hid (∀ e ∈ ds.map DN.ent, ∃ q : Shp, e.2 = mkN q) := inv
    clear inv
    go_wp2_with (at_next; refine wpList_nextK rfl _ rfl 3 Tryz.underlying3 b w.heap.size _ left cnt rfl hrg (fun q : Shp => .agg #[.int .i64 q.1, .slice q.2.1 q.2.2.1 q.2.2.2.1, .slice q.2.2.2.2.1 q.2.2.2.2.2.1 q.2.2.2.2.2.2]) HINV.out ?_ ?_; intro hl0; rotate_left; rintro x ⟨kd, da, dn, dc, sa, n, sc⟩ w1 cnt1 hmem hlx hrg1 hlt hg1 hs1 hen; simp only at hmem hen; rotate_left)
    · have HR : Hid (c = L) := by
       have h1 := HI.out.2.2
       rw [leftSum_none (fun f _ => hl0 _)] at h1
       exact h1
      have HB : Hid (Below w.heap.size w wr) := HI.out.2.1
      clear HI hrg hl0 HINV
      go_wp2
      go_ret
      exact ⟨by rw [HR.out]; rfl, HB.out⟩
    · obtain ⟨f, hf, hfe⟩ := List.mem_map.1 hmem
      have hx : f.n.ino = x := congrArg Prod.fst hfe
      have hv : f.val = .agg #[.int .i64 kd, .slice da dn dc, .slice sa n sc] := congrArg Prod.snd hfe
      have hfs : f.s = .slice sa n sc := by
       unfold DN.val at hv
       injection hv with hv
       have := congrArg (fun a : Array Value => a[2]?) hv
       simpa using this
      have hok := HOK.out f hf
      have hpl : (pairsB f.n).length = f.n.names.length := by unfold pairsB; rw [List.length_zip]; have := hok.1.len; omega
      obtain ⟨ao, cap, e1, k1, k2, k3, k4⟩ := (HD.out.2.2 f hf).2
      rw [hfs] at e1
      injection e1 with e1 e2 e3
      subst e1 e2 e3
      have hni : f.n.inos.length = (pairsB f.n).length := by rw [hpl, hok.1.len]
      have hstep := leftSum_step (i := i) HI.out.1.2 hf (by rw [hx]; exact hlx)
      rw [hx] at hstep
      have hin := HI.out.2.2
      have HB1 : Hid (Below w.heap.size w w1) := HI.out.2.1.grown hg1 HI.out.2.1.size (fun k hk => by injection hk with hk; omega)
      have H4 : Hid (0 < (pairsB f.n).length → _) := k4
      have HIN : Hid (RangeIs Tryz.prog 3 w1 b w.heap.size (ds.map DN.ent) (fun z => left z && !z.sameKey (Lit.int IntKind.i64 x)) cnt1) := hrg1
      have HST : Hid (c + (f.n.inos.count i + leftSum ds (fun z => left z && !z.sameKey (Lit.int IntKind.i64 x)) i) = L) := by show _ = _; omega
      have HNI : Hid (f.n.inos.length = (pairsB f.n).length) := hni
      have nsm : ((pairsB f.n).length : Int) ≤ 10000 := by have := hok.2; omega
      have HCL : Hid (cnt1 < cnt ∧ wr.rangeLeft b w.heap.size = cnt) := ⟨hlt, HI.out.1.1.left_eq⟩
      have HSM2 : Hid (f.n.inos.count i ≤ 10000 ∧ c ≤ 610000) := by
       have h4 : f.n.inos.count i ≤ f.n.inos.length := List.count_le_length
       have h5 := HSM.out
       constructor <;> omega
      have HG : Hid (∀ j, (hj : j < (pairsB f.n).length) → ((pairsB f.n)[j].2 = f.n.inos.getD j 0)) := fun j hj => by
       have : j < f.n.inos.length := by omega
       simp [pairsB, List.getD, this]
      clear hmem hfe hx hv hfs hok hpl k1 k2 k3 k4 hni hstep hin hrg1 hlt hg1 hs1 HI hrg HINV hf hlx
      obtain ⟨w9, hw9⟩ : ∃ z, z = wr := ⟨_, rfl⟩
      subst hw9
      go_loopw [5, 25] (fun s5 s25 wr => ∃ j : Nat, j ≤ (pairsB f.n).length ∧ s25 = .int .i64 (j : Int) ∧ s5 = .int .i64 ((c + (f.n.inos.take j).count i : Nat) : Int) ∧ Hid (Below w1.heap.size w1 wr)) (fun _ s25 _ => (pairsB f.n).length - (intOf s25).toNat)
      case atStart => exact ⟨0, Nat.zero_le _, rfl, by simp, (Below.refl _ _).alloc (Nat.le_refl _) _⟩
      case round =>
       obtain ⟨j, hj, rfl, rfl, HB2⟩ := hrel
       by_cases hjl : j < (pairsB f.n).length
       · obtain ⟨g, off, hao, hgb, hc⟩ := H4.out (by omega)
         subst hao
         have cc := at2_of hc hjl
         have bb := bel2v HB1.out HB2.out
         have d0 := (bb.cell hgb).trans cc.1
         have d1 := (bb.cell hgb).trans cc.2
         have hji : j < f.n.inos.length := by have := HNI.out; omega
         have hgd : f.n.inos.getD j 0 = f.n.inos[j] := by simp [List.getD, hji]
         rw [HG.out j hjl, hgd] at d1
         clear hgd
         have hct := count_take_succ f.n.inos j hji i
         obtain ⟨y, hy⟩ : ∃ y, f.n.inos[j] = y := ⟨_, rfl⟩
         rw [hy] at d1 hct
         have jl : (j : Int) < ((pairsB f.n).length : Int) := by omega
         have hle : (f.n.inos.take j).count i ≤ f.n.inos.count i := List.Sublist.count_le i (List.take_sublist _ _)
         have m1 : ((c + (f.n.inos.take j).count i : Nat) : Int) ≤ 620000 := by have := HSM2.out; omega
         obtain ⟨cj, hcj⟩ : ∃ cj, c + (f.n.inos.take j).count i = cj := ⟨_, rfl⟩
         rw [hcj] at m1 ⊢
         clear hc cc bb hle
         by_cases hyi : y = i
         · subst hyi
           have HC : Hid (c + (f.n.inos.take (j + 1)).count y = cj + 1) := by show _ = _; rw [hct]; simp; omega
           clear hct hcj hy hji
           go_wp2
           go_roundw
           case rel => exact ⟨j + 1, by omega, by simp, by rw [HC.out]; simp, HB2.out.alloc HB2.out.size _⟩
           case measure => simp [intOf]; omega
         · have hyf : (y == i) = false := beq_eq_false_iff_ne.2 hyi
           have HC : Hid (c + (f.n.inos.take (j + 1)).count i = cj) := by show _ = _; rw [hct, if_neg hyi]; omega
           clear hct hcj hy hyi hji
           go_wp2
           go_roundw
           case rel => exact ⟨j + 1, by omega, by simp, by rw [HC.out], HB2.out.alloc HB2.out.size _⟩
           case measure => simp [intOf]; omega
       · have ej : j = (pairsB f.n).length := by omega
         subst ej
         have HT : Hid (f.n.inos.take (pairsB f.n).length = f.n.inos) := List.take_of_length_le (by have := HNI.out; omega)
         rw [HT.out]
         go_wp2
         go_roundw
         case rel => exact ⟨_, _, _, rfl, ⟨HIN.out.below HB2.out, bel2v HB1.out HB2.out, by have := HST.out; omega⟩⟩
         case measure =>
          rw [(HIN.out.below HB2.out).1.left_eq, HCL.out.2]
          exact HCL.out.1
end Go.Proofs.YtbebgobboccjcaaGreatDoor
namespace Go.Proofs.YtbebgobboccjcaaGreatDoor
open Go.RowKit Kit
set_option linter.unusedVariables false

theorem infoSt : (Tryz.prog.info? 9).map (fun i => (i.zero, i.size, i.bytes)) = some (some (.string ⟨#[]⟩), 1, 16) := by kernel_rfl
set_option maxRecDepth 4000 in
set_option maxHeartbeats 4000000 in
theorem dbclone_any (v : Value) (l : List Int) (w : World) (hv : Sees w v (intsV .u8 l)) (hl : l.length ≤ 10000) :
 Calls Tryz.prog 59 #[v] w fun e w' => ∃ r, e = .returned r ∧ RowV w' w.heap.size 5 r (intsV .u8 l) ∧ Below w.heap.size w w' := by
 have HV : Hid (Sees w v (intsV .u8 l)) := hv
 obtain ⟨ao, cap, rfl, h1, h2, h3, h4⟩ := hv
 rw [intsV_len] at h1 h4 HV ⊢
 cases ao with
 | none =>
   have hc := h3 rfl
   have hl0 : l = [] := List.eq_nil_of_length_eq_zero (by omega)
   subst hl0 hc
   have hq := Lib.run_eql_slice_nil (P := Tryz.prog) w 33 5 none 0 0 0 0 Tryz.underlying33
   clear h1 h2 h3 h4 HV
   go_enter Tryz.func59, Tryz.ntmps59
   go_wp2
   go_ret
   exact ⟨_, rfl, rowV_nil _ _ _, Below.refl _ _⟩
 | some ad =>
   have hq := Lib.run_eql_slice_nil (P := Tryz.prog) w 33 5 (some ad) l.length cap 0 0 Tryz.underlying33
   have HR : Hid (RowV (w.alloc (.cells #[] 5)) w.heap.size 5 (.slice (some ⟨w.heap.size, 0, none⟩) 0 0) []) := rowV_lit w w.heap.size 5 [] (Nat.le_refl _) (by simp)
   have HV2 : Hid (Sees (w.alloc (.cells #[] 5)) (.slice (some ad) l.length cap) (intsV .u8 l)) := Sees.below HV.out ((Below.refl _ _).alloc (Nat.le_refl _) _)
   have HL : Hid ((([] : List Value).length + (intsV .u8 l).length) * 16 ≤ 140737488355328) := by show _ ≤ _; rw [intsV_len]; simp; omega
   have HO : Hid (∀ u ∈ intsV .u8 l, u.oneCell' = true) := ints_one .u8 l
   clear h1 h2 h3 h4 HV
   go_enter Tryz.func59, Tryz.ntmps59
   go_wp2_with (at_builtin; refine wpList_appV Tryz.underlying33 infoU8 rfl (by omega) rfl _ _ rfl w.heap.size _ [] rfl HR.out _ (intsV .u8 l) rfl HV2.out HO.out HL.out (by simp) ?_; intro v' w' k1 k2)
   have HB : Hid (RowV w' w.heap.size 5 v' (intsV .u8 l) ∧ Below w.heap.size w w') := ⟨k1, ((Below.refl _ w).alloc (Nat.le_refl _) _).trans k2⟩
   clear k1 k2
   go_ret
   exact ⟨_, rfl, HB.out.1, HB.out.2⟩
theorem sees_part {w : World} {ao : Option Addr} {cap n : Nat} {xs : List Value} (h : Sees w (.slice ao n cap) xs) (k m : Nat) (hk : k + m ≤ n) : ∀ ao', (∀ a, ao = some a → ao' = some (a.add k)) → (ao = none → ao' = none) → Sees w (.slice ao' m (cap - k)) ((xs.drop k).take m) := by
 obtain ⟨a0, c0, e, h1, h2, h3, h4⟩ := h
 injection e with e1 e2 e3
 subst e1 e3
 intro ao' g1 g2
 have hl : ((xs.drop k).take m).length = m := by rw [List.length_take, List.length_drop]; omega
 refine ⟨ao', cap - k, by rw [hl], by rw [hl]; omega, by omega, fun hn => ?_, fun h0 => ?_⟩
 · cases ao with
   | none => have := h3 rfl; omega
   | some a => rw [g1 a rfl] at hn; cases hn
 · obtain ⟨b, off, e, hb, hc⟩ := h4 (by omega)
   refine ⟨b, off + k, by rw [g1 _ e, Addr.add_lit], hb, fun i x hx => ?_⟩
   rw [Nat.add_assoc]
   refine hc (k + i) x ?_
   rw [List.getElem?_take] at hx
   split at hx
   · rw [List.getElem?_drop] at hx; exact hx
   · cases hx
set_option maxRecDepth 4000 in
set_option maxHeartbeats 4000000 in
theorem dpart_any (v : Value) (l : List Int) (off n : Int) (w : World) (hv : Sees w v (intsV .u8 l)) (hl : l.length ≤ 10000) (ho : 0 ≤ off) (hn : 0 ≤ n) :
 Calls Tryz.prog 103 #[v, .int .i64 off, .int .i64 n] w fun e w' => ∃ r, e = .returned r ∧ RowV w' w.heap.size 5 r (intsV .u8 ((l.drop off.toNat).take n.toNat)) ∧ Below w.heap.size w w' := by
 obtain ⟨k, hk⟩ : ∃ k : Nat, (k : Int) = min off l.length := ⟨(min off l.length).toNat, by omega⟩
 obtain ⟨m, hm⟩ : ∃ m : Nat, (m : Int) = min n ((l.length - k : Nat) : Int) := ⟨(min n ((l.length - k : Nat) : Int)).toNat, by omega⟩
 have hkl : k ≤ l.length := by omega
 have hml : k + m ≤ l.length := by omega
 have e1 : (l.drop off.toNat).take n.toNat = (l.drop k).take m := by
  by_cases c1 : off ≤ l.length
  · have : off.toNat = k := by omega
    rw [this]
    by_cases c2 : n ≤ ((l.length - k : Nat) : Int)
    · have : n.toNat = m := by omega
      rw [this]
    · have hm2 : m = l.length - k := by omega
      rw [List.take_of_length_le (by rw [List.length_drop]; omega), List.take_of_length_le (by rw [List.length_drop]; omega)]
  · have h2 : l.drop off.toNat = [] := List.drop_of_length_le (by omega)
    have h3 : l.drop k = [] := List.drop_of_length_le (by omega)
    rw [h2, h3]; simp
 rw [e1]
 obtain ⟨ao, cap, rfl, h1, h2, h3, h4⟩ := id hv
 rw [intsV_len] at h1 hv ⊢
 have HV : Hid (Sees w (.slice ao l.length cap) (intsV .u8 l)) := hv
 have e2 : ((intsV .u8 l).drop k).take m = intsV .u8 ((l.drop k).take m) := by unfold intsV; rw [List.map_take, List.map_drop]
 have HX : Hid (∀ v, Sees w v (intsV .u8 ((l.drop k).take m)) → Calls Tryz.prog 59 #[v] w fun e w' => ∃ r, e = .returned r ∧ RowV w' w.heap.size 5 r (intsV .u8 ((l.drop k).take m)) ∧ Below w.heap.size w w') := fun v h => dbclone_any v _ w h (by rw [List.length_take, List.length_drop]; omega)
 clear h4 hv
 have hk2 : min off (l.length : Int) = (k : Int) := hk.symm
 have hm2 : min n ((l.length - k : Nat) : Int) = (m : Int) := hm.symm
 have hki : (k : Int) ≤ (l.length : Int) := by omega
 have hmi : (m : Int) ≤ ((l.length - k : Nat) : Int) := by omega
 have hli : (l.length : Int) ≤ 10000 := by omega
 have hci : (l.length : Int) ≤ (cap : Int) := by omega
 have HL : Hid (((l.drop k).take m).length = m) := by show _ = _; rw [List.length_take, List.length_drop]; omega
 cases ao with
 | none =>
   have hc := h3 rfl
   subst hc
   have l0 : l.length = 0 := by omega
   have k0 : k = 0 := by omega
   have m0 : m = 0 := by omega
   subst k0 m0
   have HY : Hid (Calls Tryz.prog 59 #[.slice none 0 0] w _) := HX.out (.slice none 0 0) ⟨none, 0, by rw [intsV_len, HL.out], by rw [intsV_len, HL.out]; exact Nat.le_refl _, by simp, fun _ => rfl, fun h => by rw [intsV_len, HL.out] at h; omega⟩
   rw [l0] at hk2 ⊢
   have hk3 : min off 0 = 0 := by omega
   have hm3 : min n 0 = 0 := by omega
   clear HX e1 e2 h1 h2 h3 hk hm hkl hml hl HV HL hki hmi hli hci
   go_enter Tryz.func103, Tryz.ntmps103
   go_wp2_with (go_at_call 59; refine HY.out.mono ?_; rintro e w' ⟨r, rfl, hr, hb⟩)
   go_ret
   exact ⟨_, rfl, hr, hb⟩
 | some a =>
   obtain ⟨ab, aoff, asp⟩ := a
   by_cases hck : cap = k
   · have m0 : m = 0 := by omega
     subst m0
     have HY : Hid (Calls Tryz.prog 59 #[.slice (some ⟨ab, aoff, asp⟩) 0 0] w _) := HX.out (.slice (some ⟨ab, aoff, asp⟩) 0 0) ⟨_, 0, by rw [intsV_len, HL.out], by rw [intsV_len, HL.out]; exact Nat.le_refl _, by simp, fun _ => rfl, fun h => by rw [intsV_len, HL.out] at h; omega⟩
     subst hck
     clear HX e1 e2 h1 h2 h3 hk hm hkl hml hl HV HL
     go_enter Tryz.func103, Tryz.ntmps103
     go_wp2_with (go_at_call 59; refine HY.out.mono ?_; rintro e w' ⟨r, rfl, hr, hb⟩)
     go_ret
     exact ⟨_, rfl, hr, hb⟩
   · have hs := sees_part HV.out k m hml (some ((⟨ab, aoff, asp⟩ : Addr).add k)) (fun a h => by injection h with h; subst h; rfl) (fun h => by cases h)
     rw [e2] at hs
     have HY : Hid (Calls Tryz.prog 59 #[.slice (some ((⟨ab, aoff, asp⟩ : Addr).add k)) m (cap - k)] w _) := HX.out _ hs
     have hc0 : ¬ cap - k = 0 := by omega
     clear HX e1 e2 h1 h2 h3 hk hm hkl hml hl HV HL hs
     go_enter Tryz.func103, Tryz.ntmps103
     go_wp2_with (go_at_call 59; refine HY.out.mono ?_; rintro e w' ⟨r, rfl, hr, hb⟩)
     go_ret
     exact ⟨_, rfl, hr, hb⟩
def unlikeB (kind nk : Int) (len : Nat) : Int := if kind = 2 ∧ nk = 1 then 8 else if kind = 1 ∧ nk = 2 then 7 else if 0 < len then 9 else 0
set_option maxRecDepth 4000 in
set_option maxHeartbeats 4000000 in
theorem dunlike_any (kind nk : Int) (da sa : Option Addr) (dn dc sn sc : Nat) (w : World) (h1 : kind = 1 ∨ kind = 2) (h2 : nk = 1 ∨ nk = 2) (h3 : sn ≤ 1000000) :
 Calls Tryz.prog 97 #[.int .i64 kind, .agg #[.int .i64 nk, .slice da dn dc, .slice sa sn sc]] w fun e w' => e = .returned (errV (unlikeB kind nk sn)) ∧ Below w.heap.size w w' := by
 have hs : (sn : Int) ≤ 1000000 := by omega
 rcases h1 with rfl | rfl <;> rcases h2 with rfl | rfl
 · by_cases h0 : sn = 0
   · subst h0
     go_enter Tryz.func97, Tryz.ntmps97
     go_wp2
     go_ret
     exact ⟨rfl, (Below.refl _ _).alloc (Nat.le_refl _) _⟩
   · have hp : (sn : Int) > 0 := by omega
     have HR : Hid (unlikeB 1 1 sn = 9) := by show _ = _; unfold unlikeB; rw [if_neg (by omega), if_neg (by omega), if_pos (by omega)]
     go_enter Tryz.func97, Tryz.ntmps97
     go_wp2
     go_ret
     exact ⟨by rw [HR.out]; rfl, (Below.refl _ _).alloc (Nat.le_refl _) _⟩
 · have HR : Hid (unlikeB 1 2 sn = 7) := by show _ = _; unfold unlikeB; rw [if_neg (by omega), if_pos (by omega)]
   go_enter Tryz.func97, Tryz.ntmps97
   go_wp2
   go_ret
   exact ⟨by rw [HR.out]; rfl, (Below.refl _ _).alloc (Nat.le_refl _) _⟩
 · have HR : Hid (unlikeB 2 1 sn = 8) := by show _ = _; unfold unlikeB; rw [if_pos (by omega)]
   go_enter Tryz.func97, Tryz.ntmps97
   go_wp2
   go_ret
   exact ⟨by rw [HR.out]; rfl, (Below.refl _ _).alloc (Nat.le_refl _) _⟩
 · by_cases h0 : sn = 0
   · subst h0
     go_enter Tryz.func97, Tryz.ntmps97
     go_wp2
     go_ret
     exact ⟨rfl, (Below.refl _ _).alloc (Nat.le_refl _) _⟩
   · have hp : (sn : Int) > 0 := by omega
     have HR : Hid (unlikeB 2 2 sn = 9) := by show _ = _; unfold unlikeB; rw [if_neg (by omega), if_neg (by omega), if_pos (by omega)]
     go_enter Tryz.func97, Tryz.ntmps97
     go_wp2
     go_ret
     exact ⟨by rw [HR.out]; rfl, (Below.refl _ _).alloc (Nat.le_refl _) _⟩
end Go.Proofs.YtbebgobboccjcaaGreatDoor
namespace Go.Proofs.YtbebgobboccjcaaGreatDoor
open Go.RowKit Kit
set_option linter.unusedVariables false

theorem parent_small (s : ByteArray) : (parentB s).1.size ≤ maxLen := by
 by_cases h : (parentB s).2.2 = 0
 · obtain ⟨h1, l, q, h2, h3, h4, _⟩ := parent_ok h
   rw [h3]
   have h5 := split_small (joinB l)
   rw [h4] at h5
   have h6 := tot_small l h5.2
   have h8 := h5.1
   simp only at *
   by_cases h0 : l.length = 0
   · have : l = [] := List.eq_nil_of_length_eq_zero h0
     subst this
     have : (joinB []).size = 1 := by decide
     rw [this]
     unfold maxLen
     omega
   · rw [joinB_size h0]
     unfold maxLen
     omega
 · have : (parentB s).1 = ⟨#[]⟩ := by
    unfold parentB at h ⊢
    split
    · rfl
    · split
      · rfl
      · rename_i h1 h2
        rw [if_neg h1, if_neg h2] at h
        exact absurd rfl h
   rw [this]
   simp [ByteArray.size, maxLen]
theorem find_lt {t : TreeB} (h : Fair t) {s : ByteArray} {k : Nat} (hf : findB t s = .ok k) : k < t.nodes.length := by
 unfold findB at hf
 rw [h.rootP] at hf
 split at hf
 · cases hf
 · have : ∀ (l : List ByteArray) (k x : Nat), k < t.nodes.length → walkB t k l = .ok x → x < t.nodes.length := by
    intro l
    induction l with
    | nil => intro k x hk hw; rw [walkB] at hw; injection hw with hw; omega
    | cons s r ih =>
      intro k x hk hw
      rw [walkB] at hw
      split at hw
      · cases hw
      · split at hw
        · cases hw
        · rename_i h1 h2
          obtain ⟨k', h3, h4, _⟩ := h.step hk h2
          rw [h3] at hw
          exact ih k' x h4 hw
   exact this _ 0 k h.root0.1 hf
theorem find_code' {t : TreeB} {s : ByteArray} {e : Int} (hf : findB t s = .error e) : e ≠ 0 := by
 rcases find_code hf with h | h | h | h | h <;> omega
def outP (t : TreeB) (r : Except Int (Nat × ByteArray)) : Int × ByteArray × Int := match r with
 | .ok (k, s) => ((nodeAt t k).ino, s, 0)
 | .error e => (0, ⟨#[]⟩, e)
theorem errV_ne {e : Int} (h : e ≠ 0) : errV e = .iface 80 (.int .i64 e) := by unfold errV; rw [if_neg h]
set_option maxRecDepth 4000 in
set_option maxHeartbeats 8000000 in
theorem dplace_any (s : ByteArray) (w : World) (p b : Nat) (t : TreeB) (hT : DTree w p b t) (ht : Fair t) (hs : s.size ≤ maxLen) :
 Calls Tryz.prog 100 #[.pointer (some ⟨p, 0, none⟩), .string s] w fun e w' => e = .returned (.tuple #[.int .i64 (outP t (homeB t s)).1, .string (outP t (homeB t s)).2.1, errV (outP t (homeB t s)).2.2]) ∧ Below w.heap.size w w' := by
 have HX : Hid (Calls Tryz.prog 96 _ _ _) := nparent_any s w hs
 have HPS := parent_small s
 have HU : Hid (homeB t s = if (parentB s).2.2 ≠ 0 then .error (parentB s).2.2 else match findB t (parentB s).1 with
  | .error e => .error e
  | .ok d => if (nodeAt t d).kind ≠ 2 then .error 8 else .ok (d, (parentB s).2.1)) := rfl
 obtain ⟨⟨d, q, e⟩, he⟩ : ∃ x, parentB s = x := ⟨_, rfl⟩
 rw [he] at HX HPS HU
 simp only at HX HPS HU
 obtain ⟨h, hh⟩ : ∃ h, homeB t s = h := ⟨_, rfl⟩
 rw [hh] at HU ⊢
 have HT : Hid (DTree w p b t ∧ Fair t) := ⟨hT, ht⟩
 clear hs he hT ht hh
 by_cases hp0 : e = 0
 · subst hp0
   have e0 : errV 0 = .nilIface := rfl
   rw [e0] at HX
   clear e0
   have HFd : Hid (∀ W, Below w.heap.size w W → _) := fun W hW => dfind_any d W p b t (HT.out.1.below hW) HT.out.2 HPS
   obtain ⟨r, hr⟩ : ∃ r, findB t d = r := ⟨_, rfl⟩
   rw [hr] at HFd HU
   have HR2 : Hid (findB t d = r) := hr
   clear hr HPS
   cases r with
   | error x =>
     have hx := find_code' HR2.out
     have HE : Hid (errV x = .iface 80 (.int .i64 x)) := errV_ne hx
     have HR : Hid (h = .error x) := by show _ = _; rw [HU.out, if_neg (by simp)]
     simp only [outW2] at HFd
     rw [errV_ne hx] at HFd
     clear HU hx
     go_enter Tryz.func100, Tryz.ntmps100
     go_wp2_with fail
     go_at_call 96
     refine HX.out.mono ?_
     rintro e1 w1 ⟨rfl, hb1⟩
     have H1 : Hid (Below w.heap.size w w1) := hb1
     clear hb1 HX
     go_wp2_with fail
     go_at_call 22
     refine (HFd.out _ H1.out).mono ?_
     rintro e2 w2 ⟨rfl, hb2⟩
     have H2 : Hid (Below w.heap.size w w2) := bel2v H1.out hb2
     clear hb2 HFd H1
     go_wp2
     go_ret3
     rw [HR.out]
     exact ⟨by simp only [outP]; rw [HE.out]; rfl, H2.out⟩
   | ok k =>
     have hk := find_lt HT.out.2 HR2.out
     simp only [outW2] at HFd
     have e0 : errV 0 = .nilIface := rfl
     rw [e0] at HFd
     clear e0
     have hkk := HT.out.2.kind (nodeAt_mem hk)
     obtain ⟨da, dc, sa, sc, hlook⟩ := HT.out.1.lookAt HT.out.2 hk
     have HLK : Hid (∀ W, Below w.heap.size w W → _) := hlook
     have hf0 := nfield0
     have HK : Hid (h = if (nodeAt t k).kind ≠ 2 then .error 8 else .ok (k, q)) := by show _ = _; rw [HU.out, if_neg (by simp)]
     have HRO : Hid (∀ z, outP t (.ok (k, z)) = ((nodeAt t k).ino, z, 0)) := fun z => rfl
     obtain ⟨ii, hii⟩ : ∃ x, (nodeAt t k).ino = x := ⟨_, rfl⟩
     obtain ⟨kk, hkq⟩ : ∃ x, (nodeAt t k).kind = x := ⟨_, rfl⟩
     rw [hii] at HFd HLK HRO
     rw [hkq] at HLK HK hkk
     clear HU hlook hii hkq HR2
     go_enter Tryz.func100, Tryz.ntmps100
     go_wp2_with fail
     go_at_call 96
     refine HX.out.mono ?_
     rintro e1 w1 ⟨rfl, hb1⟩
     have H1 : Hid (Below w.heap.size w w1) := hb1
     clear hb1 HX
     go_wp2_with fail
     go_at_call 22
     refine (HFd.out _ H1.out).mono ?_
     rintro e2 w2 ⟨rfl, hb2⟩
     have H2 : Hid (Below w.heap.size w w2) := bel2v H1.out hb2
     obtain ⟨hl, c0, _⟩ := HLK.out w2 H2.out
     clear hb2 HFd H1
     rcases hkk with rfl | rfl
     · have HR : Hid (h = .error 8) := by show _ = _; rw [HK.out, if_pos (by omega)]
       clear HK
       go_wp2
       go_ret3
       rw [HR.out]
       exact ⟨rfl, H2.out⟩
     · have HR : Hid (h = .ok (k, q)) := by show _ = _; rw [HK.out, if_neg (by omega)]
       clear HK
       go_wp2
       go_ret3
       rw [HR.out, HRO.out]
       exact ⟨rfl, H2.out⟩
 · have HE : Hid (errV e = .iface 80 (.int .i64 e)) := errV_ne hp0
   have HR : Hid (h = .error e) := by show _ = _; rw [HU.out, if_pos hp0]
   rw [errV_ne hp0] at HX
   clear HU hp0 HPS
   go_enter Tryz.func100, Tryz.ntmps100
   go_wp2_with fail
   go_at_call 96
   refine HX.out.mono ?_
   rintro e1 w1 ⟨rfl, hb1⟩
   have H1 : Hid (Below w.heap.size w w1) := hb1
   clear hb1 HX
   go_wp2
   go_ret3
   rw [HR.out]
   exact ⟨by simp only [outP]; rw [HE.out]; rfl, H1.out⟩
def outF (t : TreeB) (r : Except Int (Nat × ByteArray)) : Except Int (Nat × ByteArray) := match r with
 | .ok (k, s) => if nameB (nodeAt t k) s ≠ 0 then .error 6 else .ok (k, s)
 | .error e => .error e
theorem home_lt {t : TreeB} (h : Fair t) {s q : ByteArray} {k : Nat} (hh : homeB t s = .ok (k, q)) : k < t.nodes.length ∧ (nodeAt t k).kind = 2 := by
 unfold homeB at hh
 split at hh
 · cases hh
 · split at hh
   · cases hh
   · rename_i d hd
     split at hh
     · cases hh
     · rename_i h2
       injection hh with hh
       injection hh with h3 h4
       subst h3
       exact ⟨find_lt h hd, by omega⟩
theorem home_code' {t : TreeB} {s : ByteArray} {x : Int} (h : homeB t s = .error x) : x ≠ 0 := by
 unfold homeB at h
 split at h
 · rename_i h1
   injection h with h
   exact fun e => h1 (h.trans e)
 · split at h
   · rename_i y hy
     injection h with h
     subst h
     exact find_code' hy
   · split at h
     · injection h with h; omega
     · cases h
set_option maxRecDepth 4000 in
set_option maxHeartbeats 8000000 in
theorem dfree_any (s : ByteArray) (w : World) (p b : Nat) (t : TreeB) (hT : DTree w p b t) (ht : Fair t) (hs : s.size ≤ maxLen) :
 Calls Tryz.prog 94 #[.pointer (some ⟨p, 0, none⟩), .string s] w fun e w' => e = .returned (.tuple #[.int .i64 (outP t (outF t (homeB t s))).1, .string (outP t (outF t (homeB t s))).2.1, errV (outP t (outF t (homeB t s))).2.2]) ∧ Below w.heap.size w w' := by
 have HX : Hid (Calls Tryz.prog 100 _ _ _) := dplace_any s w p b t hT ht hs
 obtain ⟨h, hh⟩ : ∃ h, homeB t s = h := ⟨_, rfl⟩
 rw [hh] at HX ⊢
 have HT : Hid (DTree w p b t ∧ Fair t) := ⟨hT, ht⟩
 have HH : Hid (homeB t s = h) := hh
 clear hs hT ht hh
 cases h with
 | error x =>
   have hx := home_code' HH.out
   have HE : Hid (errV x = .iface 80 (.int .i64 x)) := errV_ne hx
   simp only [outP] at HX
   rw [errV_ne hx] at HX
   clear hx
   go_enter Tryz.func94, Tryz.ntmps94
   go_wp2_with fail
   go_at_call 100
   refine HX.out.mono ?_
   rintro e1 w1 ⟨rfl, hb1⟩
   have H1 : Hid (Below w.heap.size w w1) := hb1
   clear hb1 HX
   go_wp2
   go_ret3
   exact ⟨by simp only [outP, outF]; rw [HE.out]; rfl, H1.out⟩
 | ok kq =>
   obtain ⟨k, q⟩ := kq
   obtain ⟨hk, hk2⟩ := home_lt HT.out.2 HH.out
   obtain ⟨da, dc, sa, sc, hlook⟩ := HT.out.1.lookAt HT.out.2 hk
   have ok := HT.out.2.each _ (nodeAt_mem hk)
   have hz := HT.out.2.nz (nodeAt_mem hk)
   have HLK : Hid (∀ W, Below w.heap.size w W → _) := hlook
   have HLD : Hid (∀ W, Below w.heap.size w W → _) := fun W hW => leads_of ok hk2 (HT.out.2.names _ (nodeAt_mem hk)) (hlook W hW).2.2 q
   have HNM := has_name ok hz q
   simp only [outP] at HX
   have e0 : errV 0 = .nilIface := rfl
   rw [e0] at HX
   rw [hk2] at HLK
   have HRO : Hid (outP t (outF t (.ok (k, q))) = if nameB (nodeAt t k) q ≠ 0 then (0, ⟨#[]⟩, 6) else ((nodeAt t k).ino, q, 0)) := by
    show _ = _
    simp only [outF]
    split <;> rfl
   obtain ⟨ii, hii⟩ : ∃ x, (nodeAt t k).ino = x := ⟨_, rfl⟩
   rw [hii] at HX HLK HRO
   cases hh : hasB (nodeAt t k).names q with
   | true =>
     have HR : Hid (outP t (outF t (.ok (k, q))) = (0, ⟨#[]⟩, 6)) := by show _ = _; rw [HRO.out, if_pos (HNM.1 hh)]
     rw [hh] at HLD
     clear hlook e0 ok hz HNM HRO hii hh
     go_enter Tryz.func94, Tryz.ntmps94
     go_wp2_with fail
     go_at_call 100
     refine HX.out.mono ?_
     rintro e1 w1 ⟨rfl, hb1⟩
     have H1 : Hid (Below w.heap.size w w1) := hb1
     obtain ⟨hl, c0, _⟩ := HLK.out w1 hb1
     clear hb1 HX
     go_wp2_with fail
     go_at_call 78
     refine (HLD.out w1 H1.out).mono ?_
     rintro e2 w2 ⟨rfl, hb2⟩
     have H2 : Hid (Below w.heap.size w w2) := bel2v H1.out hb2
     clear hb2
     go_wp2
     go_ret3
     rw [HR.out]
     exact ⟨rfl, H2.out⟩
   | false =>
     have HR : Hid (outP t (outF t (.ok (k, q))) = (ii, q, 0)) := by
      show _ = _
      rw [HRO.out, if_neg]
      intro hc
      rw [HNM.2 hc] at hh; cases hh
     rw [hh] at HLD
     clear hlook e0 ok hz HNM HRO hii hh
     go_enter Tryz.func94, Tryz.ntmps94
     go_wp2_with fail
     go_at_call 100
     refine HX.out.mono ?_
     rintro e1 w1 ⟨rfl, hb1⟩
     have H1 : Hid (Below w.heap.size w w1) := hb1
     obtain ⟨hl, c0, _⟩ := HLK.out w1 hb1
     clear hb1 HX
     go_wp2_with fail
     go_at_call 78
     refine (HLD.out w1 H1.out).mono ?_
     rintro e2 w2 ⟨rfl, hb2⟩
     have H2 : Hid (Below w.heap.size w w2) := bel2v H1.out hb2
     clear hb2
     go_wp2
     go_ret3
     rw [HR.out]
     exact ⟨rfl, H2.out⟩
def outFile (t : TreeB) (r : Except Int Nat) : Except Int Nat := match r with
 | .ok k => if (nodeAt t k).kind = 2 then .error 7 else .ok k
 | .error e => .error e
set_option maxRecDepth 4000 in
set_option maxHeartbeats 8000000 in
theorem dfile_any (s : ByteArray) (w : World) (p b : Nat) (t : TreeB) (hT : DTree w p b t) (ht : Fair t) (hs : s.size ≤ maxLen) :
 Calls Tryz.prog 102 #[.pointer (some ⟨p, 0, none⟩), .string s] w fun e w' => e = .returned (.tuple #[.int .i64 (outW2 t (outFile t (findB t s))).1, errV (outW2 t (outFile t (findB t s))).2]) ∧ Below w.heap.size w w' := by
 have HX : Hid (Calls Tryz.prog 22 _ _ _) := dfind_any s w p b t hT ht hs
 obtain ⟨h, hh⟩ : ∃ h, findB t s = h := ⟨_, rfl⟩
 rw [hh] at HX ⊢
 have HT : Hid (DTree w p b t ∧ Fair t) := ⟨hT, ht⟩
 have HH : Hid (findB t s = h) := hh
 clear hs hT ht hh
 cases h with
 | error x =>
   have hx := find_code' HH.out
   have HE : Hid (errV x = .iface 80 (.int .i64 x)) := errV_ne hx
   simp only [outW2] at HX
   rw [errV_ne hx] at HX
   clear hx
   go_enter Tryz.func102, Tryz.ntmps102
   go_wp2_with fail
   go_at_call 22
   refine HX.out.mono ?_
   rintro e1 w1 ⟨rfl, hb1⟩
   have H1 : Hid (Below w.heap.size w w1) := hb1
   clear hb1 HX
   go_wp2
   go_ret2
   exact ⟨by simp only [outW2, outFile]; rw [HE.out]; rfl, H1.out⟩
 | ok k =>
   have hk := find_lt HT.out.2 HH.out
   obtain ⟨da, dc, sa, sc, hlook⟩ := HT.out.1.lookAt HT.out.2 hk
   have hkk := HT.out.2.kind (nodeAt_mem hk)
   have HLK : Hid (∀ W, Below w.heap.size w W → _) := hlook
   have hf0 := nfield0
   simp only [outW2] at HX
   have e0 : errV 0 = .nilIface := rfl
   rw [e0] at HX
   have HRO : Hid (outW2 t (outFile t (.ok k)) = if (nodeAt t k).kind = 2 then (0, 7) else ((nodeAt t k).ino, 0)) := by
    show _ = _
    simp only [outFile]
    split <;> rfl
   obtain ⟨ii, hii⟩ : ∃ x, (nodeAt t k).ino = x := ⟨_, rfl⟩
   obtain ⟨kk, hkq⟩ : ∃ x, (nodeAt t k).kind = x := ⟨_, rfl⟩
   rw [hii] at HX HLK HRO
   rw [hkq] at HLK HRO hkk
   clear hlook e0 hii hkq
   rcases hkk with rfl | rfl
   · have HR : Hid (outW2 t (outFile t (.ok k)) = (ii, 0)) := by show _ = _; rw [HRO.out, if_neg (by omega)]
     go_enter Tryz.func102, Tryz.ntmps102
     go_wp2_with fail
     go_at_call 22
     refine HX.out.mono ?_
     rintro e1 w1 ⟨rfl, hb1⟩
     have H1 : Hid (Below w.heap.size w w1) := hb1
     obtain ⟨hl, c0, _⟩ := HLK.out w1 hb1
     clear hb1 HX
     go_wp2
     go_ret2
     rw [HR.out]
     exact ⟨rfl, H1.out⟩
   · have HR : Hid (outW2 t (outFile t (.ok k)) = (0, 7)) := by show _ = _; rw [HRO.out, if_pos rfl]
     go_enter Tryz.func102, Tryz.ntmps102
     go_wp2_with fail
     go_at_call 22
     refine HX.out.mono ?_
     rintro e1 w1 ⟨rfl, hb1⟩
     have H1 : Hid (Below w.heap.size w w1) := hb1
     obtain ⟨hl, c0, _⟩ := HLK.out w1 hb1
     clear hb1 HX
     go_wp2
     go_ret2
     rw [HR.out]
     exact ⟨rfl, H1.out⟩
end Go.Proofs.YtbebgobboccjcaaGreatDoor
namespace Go.Proofs.YtbebgobboccjcaaGreatDoor
open Go.RowKit Kit
set_option linter.unusedVariables false

theorem putK_at : ∀ (es : List (Int × Value)) (k : Nat) (hk : k < es.length) (v : Value), RiseK es → putK es es[k].1 v = es.set k (es[k].1, v)
 | (a, x) :: r, 0, _, v, h => by
   unfold putK
   simp
 | (a, x) :: r, k + 1, hk, v, h => by
   obtain ⟨h1, h2⟩ := List.pairwise_cons.1 h
   have hk2 : k < r.length := by simpa using hk
   have := h1 r[k] (List.getElem_mem hk2)
   have ih := putK_at r k hk2 v h2
   have hlt : a < r[k].1 := this
   unfold putK
   simp only [List.getElem_cons_succ, List.set_cons_succ]
   rw [if_neg (by omega), if_neg (by omega), ih]
theorem putK_last : ∀ (es : List (Int × Value)) (i : Int) (v : Value), (∀ e ∈ es, e.1 < i) → putK es i v = es ++ [(i, v)]
 | [], i, v, _ => rfl
 | (a, x) :: r, i, v, h => by
   have h1 := h (a, x) (by simp)
   have h1 : a < i := h1
   unfold putK
   rw [if_neg (by omega), if_neg (by omega), putK_last r i v (fun e he => h e (by simp [he]))]
   rfl
theorem ds_len {ds : List DN} {t : TreeB} (h : ds.map DN.n = t.nodes) : ds.length = t.nodes.length := by rw [← h, List.length_map]
theorem ds_at {ds : List DN} {t : TreeB} (h : ds.map DN.n = t.nodes) {k : Nat} (hk : k < ds.length) : ds[k].n = nodeAt t k := by
 have hk2 : k < t.nodes.length := by rw [← ds_len h]; exact hk
 rw [nodeAt_eq t k hk2]
 have : (ds.map DN.n)[k]'(by rw [List.length_map]; exact hk) = t.nodes[k] := by simp only [h]
 rw [← this, List.getElem_map]
set_option maxRecDepth 4000 in
theorem DTree.put {w w1 : World} {p b : Nat} {t : TreeB} (h : DTree w p b t) (ht : Fair t) {k : Nat} (hk : k < t.nodes.length) (f : DN) (hi : f.n.ino = (nodeAt t k).ino) (hf : f.is w) :
 ∃ w', (Instr.mapUpdate 50 (.map (some b)) (.int .i64 (nodeAt t k).ino) f.val).run Tryz.prog w = .ok () w' ∧ DTree w' p b (setB t k f.n) ∧ Turn p b w w' ∧ w'.heap.size = w.heap.size := by
 obtain ⟨ds, hd, hn⟩ := h
 have hl : k < ds.length := by rw [ds_len hn]; exact hk
 have hp := ht.pos _ (nodeAt_mem hk)
 have hb := ht.below _ (nodeAt_mem hk)
 have hs := ht.size
 obtain ⟨w', h1, h2, h3, h4⟩ := hd.2.1.put (t := 50) (e := 70) Tryz.underlying3 Tryz.underlying50 (by rw [List.length_map, ds_len hn]; unfold maxLen; omega) (i := (nodeAt t k).ino) (by omega) f.val
 refine ⟨w', h1, ⟨ds.set k f, hd.mapTo (w' := w') ?_ h3 (fun g hg => ?_), ?_⟩, turn_grown h3, h4⟩
 · have e1 : (ds.map DN.ent)[k]'(by rw [List.length_map]; exact hl) = ds[k].ent := by rw [List.getElem_map]
   have e2 := putK_at (ds.map DN.ent) k (by rw [List.length_map]; exact hl) f.val hd.2.1.2
   have e3 : ((ds.map DN.ent)[k]'(by rw [List.length_map]; exact hl)).1 = (nodeAt t k).ino := by rw [e1]; show ds[k].n.ino = _; rw [ds_at hn hl]
   rw [e3] at e2
   rw [e2] at h2
   have e4 : (ds.set k f).map DN.ent = (ds.map DN.ent).set k ((nodeAt t k).ino, f.val) := by
    rw [List.map_set]
    congr 1
    show (f.n.ino, f.val) = _
    rw [hi]
   rw [e4]; exact h2
 · rcases List.mem_or_eq_of_mem_set hg with e | e
   · exact .inl e
   · subst e; exact .inr hf
 · unfold setB
   simp only
   rw [List.map_set, hn]
set_option maxRecDepth 4000 in
theorem DTree.more {w : World} {p b : Nat} {t : TreeB} (h : DTree w p b t) (ht : Fair t) (f : DN) (hi : ∀ n ∈ t.nodes, n.ino < f.n.ino) (hb : f.n.ino ≤ 2199023255552) (hf : f.is w) :
 ∃ w', (Instr.mapUpdate 50 (.map (some b)) (.int .i64 f.n.ino) f.val).run Tryz.prog w = .ok () w' ∧ DTree w' p b ⟨t.nodes ++ [f.n], t.next⟩ ∧ Turn p b w w' ∧ w'.heap.size = w.heap.size := by
 obtain ⟨ds, hd, hn⟩ := h
 have hs := ht.size
 have h0 : 0 ≤ f.n.ino := by
  have h1 := ht.root0
  have := hi _ (nodeAt_mem h1.1)
  omega
 obtain ⟨w', h1, h2, h3, h4⟩ := hd.2.1.put (t := 50) (e := 70) Tryz.underlying3 Tryz.underlying50 (by rw [List.length_map, ds_len hn]; unfold maxLen; omega) (i := f.n.ino) (by omega) f.val
 refine ⟨w', h1, ⟨ds ++ [f], hd.mapTo (w' := w') ?_ h3 (fun g hg => ?_), ?_⟩, turn_grown h3, h4⟩
 · rw [putK_last (ds.map DN.ent) f.n.ino f.val (fun e he => by
    obtain ⟨g, hg, rfl⟩ := List.mem_map.1 he
    exact hi g.n (by rw [← hn]; exact List.mem_map.2 ⟨g, hg, rfl⟩))] at h2
   rw [List.map_append]; exact h2
 · rcases List.mem_append.1 hg with e | e
   · exact .inl e
   · simp at e; subst e; exact .inr hf
 · simp only
   rw [List.map_append, hn]; rfl
set_option maxRecDepth 4000 in
theorem DTree.less' {w : World} {p b : Nat} {t : TreeB} (h : DTree w p b t) {i : Int} (hi : 0 ≤ i ∧ i ≤ 2199023255552) :
 ∃ w', (Builtin.delete_ #[50, 3] 0 #[.map (some b), .int .i64 i]).run Tryz.prog w = .ok (.tuple #[]) w' ∧ DTree w' p b ⟨t.nodes.filter (fun n => !(n.ino == i)), t.next⟩ ∧ Turn p b w w' ∧ w'.heap.size = w.heap.size := by
 obtain ⟨ds, hd, hn⟩ := h
 obtain ⟨w', h1, h2, h3, h4⟩ := hd.2.1.del (t := 50) (e := 70) Tryz.underlying3 Tryz.underlying50 (i := i) (by omega) 0
 refine ⟨w', h1, ⟨ds.filter (fun f => !(f.n.ino == i)), hd.mapTo (w' := w') ?_ h3 (fun g hg => .inl (List.mem_filter.1 hg).1), ?_⟩, turn_grown h3, h4⟩
 · have : delK (ds.map DN.ent) i = (ds.filter (fun f => !(f.n.ino == i))).map DN.ent := by
    unfold delK
    rw [List.filter_map]
    rfl
   rw [← this]; exact h2
 · simp only
   rw [← hn, List.filter_map]
   rfl
theorem DTree.turn {w w' : World} {p b p2 b2 : Nat} {t t2 : TreeB} (h : DTree w p b t) (h2 : DTree w p2 b2 t2) (ht : Turn p2 b2 w w') (h1 : p ≠ p2) (h3 : b ≠ b2) : DTree w' p b t := by
 obtain ⟨ds, hd, hn⟩ := h
 obtain ⟨ds2, hd2, _⟩ := h2
 have hpb : p ≠ b2 := fun e => by
  obtain ⟨xs, c, hb⟩ := hd2.2.1.isMap
  rw [← e, hd.1] at hb
  cases hb
 have hbp : b ≠ p2 := fun e => by
  obtain ⟨xs, c, hb⟩ := hd.2.1.isMap
  rw [e, hd2.1] at hb
  cases hb
 exact ⟨ds, ⟨(ht.block p hd.lt.1 h1 hpb).trans hd.1, hd.2.1.block (ht.block b hd.lt.2 hbp h3), fun f hf => (hd.2.2 f hf).turn hd2 ht⟩, hn⟩
theorem DTree.setNext {w : World} {p b : Nat} {t : TreeB} (h : DTree w p b t) (n : Int) : DTree (w.setCell ⟨p, 1, none⟩ (.int .i64 n)) p b ⟨t.nodes, n⟩ := by
 obtain ⟨ds, hd, hn⟩ := h
 exact ⟨ds, hd.setNext n, hn⟩
theorem DTree.cells {w : World} {p b : Nat} {t : TreeB} (h : DTree w p b t) : w.cell? ⟨p, 0, none⟩ = some (.map (some b)) ∧ w.cell? ⟨p, 1, none⟩ = some (.int .i64 t.next) ∧ (∀ j, w.frozen? ⟨p, j, none⟩ = false) ∧ p < w.heap.size ∧ b < w.heap.size := by
 obtain ⟨ds, hd, hn⟩ := h
 exact ⟨hd.cells.1, hd.cells.2.1, hd.cells.2.2, hd.lt.1, hd.lt.2⟩
theorem DTree.size {w : World} {p b : Nat} {t : TreeB} (h : DTree w p b t) (ty : TypeId) : (Builtin.len_ #[50] ty #[.map (some b)]).run Tryz.prog w = .ok (.int .i64 (t.nodes.length : Int)) w := by
 obtain ⟨ds, hd, hn⟩ := h
 have := hd.2.1.len (t := 50) (e := 70) Tryz.underlying50 ty
 rw [List.length_map, ds_len hn] at this
 exact this
theorem goes_low {l : List ByteArray} {s : ByteArray} (h : Rising l) (hs : s ∉ l) : goesB l s = lowB l s := by
 obtain ⟨h1, h2, h3⟩ := goes_spec l s h hs
 symm
 apply low_of h h1
 · intro j hj hl
   exact h2 _ (by rw [List.mem_take_iff_getElem]; exact ⟨j, by omega, rfl⟩)
 · intro j hj hl hlt
   have : l[j] ∈ l.drop (goesB l s) := by rw [List.mem_drop_iff_getElem]; exact ⟨j - goesB l s, by omega, by congr 1; omega⟩
   exact less_irrefl _ (less_trans hlt (h3 _ this))
theorem zip_take2 {α β : Type} : ∀ (a : List α) (b : List β) (k : Nat), (a.take k).zip (b.take k) = (a.zip b).take k
 | [], b, k => by simp
 | x :: a, [], k => by cases k <;> simp
 | x :: a, y :: b, 0 => by simp
 | x :: a, y :: b, k + 1 => by simp only [List.take_succ_cons, List.zip_cons_cons, zip_take2 a b k]
theorem zip_drop2 {α β : Type} : ∀ (a : List α) (b : List β) (k : Nat), (a.drop k).zip (b.drop k) = (a.zip b).drop k
 | [], b, k => by simp
 | x :: a, [], k => by cases k <;> simp
 | x :: a, y :: b, 0 => by simp
 | x :: a, y :: b, k + 1 => by simp only [List.drop_succ_cons, List.zip_cons_cons, zip_drop2 a b k]
theorem pairs_with {n : NodeB} (ok : NodeOK n) {s : ByteArray} (hs : s ∉ n.names) (i : Int) : pairsB (withB n s i) = (pairsB n).take (lowB n.names s) ++ (s, i) :: (pairsB n).drop (lowB n.names s) := by
 have hg := goes_low ok.1 hs
 have hl := low_le n.names s
 have hle := ok.len
 unfold withB pairsB
 simp only
 rw [hg, List.zip_append (by rw [List.length_take, List.length_take]; omega), List.zip_cons_cons, zip_take2, zip_drop2]
theorem pairs_without {n : NodeB} (ok : NodeOK n) {s : ByteArray} (hs : s ∈ n.names) : pairsB (withoutB n s) = (pairsB n).take (lowB n.names s) ++ (pairsB n).drop (lowB n.names s + 1) := by
 obtain ⟨hl, he⟩ := (low_mem ok.1).1 hs
 have hle := ok.len
 have hz : pairsB (withoutB n s) = (pairsB n).filter fun p => decide (p.1 ≠ s) := by
  have : ∀ l : List (ByteArray × Int), (l.map Prod.fst).zip (l.map Prod.snd) = l := fun l => by
   induction l with
   | nil => rfl
   | cons a r ih => simp only [List.map_cons, List.zip_cons_cons, ih]
  unfold withoutB
  rw [pairsB]
  simp only
  rw [this]
 have hpl : (pairsB n).length = n.names.length := by unfold pairsB; rw [List.length_zip]; omega
 have hat : ∀ j (hj : j < (pairsB n).length), (pairsB n)[j].1 = n.names[j]'(by omega) := fun j hj => by simp [pairsB]
 have key : ∀ (l : List (ByteArray × Int)) (k : Nat) (hk : k < l.length), (∀ j (hj : j < l.length), (l[j].1 = s ↔ j = k)) → (l.filter fun p => decide (p.1 ≠ s)) = l.take k ++ l.drop (k + 1) := by
  intro l
  induction l with
  | nil => intro k hk; simp at hk
  | cons a r ih =>
    intro k hk h
    cases k with
    | zero =>
      have h0 : a.1 = s := (h 0 (by simp)).2 rfl
      rw [List.filter_cons, if_neg (by simp [h0])]
      simp only [List.take_zero, List.nil_append, Nat.zero_add, List.drop_succ_cons, List.drop_zero]
      rw [List.filter_eq_self]
      intro x hx
      obtain ⟨j, hj, rfl⟩ := List.mem_iff_getElem.1 hx
      have := (h (j + 1) (by simpa using hj)).1
      simp only [List.getElem_cons_succ] at this
      apply decide_eq_true
      intro e
      have := this e
      omega
    | succ k =>
      have h0 : a.1 ≠ s := fun e => by have := (h 0 (by simp)).1 e; omega
      rw [List.filter_cons, if_pos (decide_eq_true h0), ih k (by simpa using hk) (fun j hj => by
       have := h (j + 1) (by simpa using hj)
       simp only [List.getElem_cons_succ] at this
       rw [this]; omega)]
      rfl
 rw [hz]
 apply key _ _ (by omega)
 intro j hj
 rw [hat j hj]
 constructor
 · intro e
   have e2 : n.names[j]'(by omega) = n.names[lowB n.names s] := by rw [e, he]
   have hp := List.pairwise_iff_getElem.1 ok.1
   by_cases c : j < lowB n.names s
   · have := hp j _ (by omega) hl c
     rw [e2] at this
     exact absurd this (less_irrefl _)
   · by_cases d : lowB n.names s < j
     · have := hp _ j hl (by omega) d
       rw [e2] at this
       exact absurd this (less_irrefl _)
     · omega
 · intro e
   subst e; exact he
end Go.Proofs.YtbebgobboccjcaaGreatDoor
namespace Go.Proofs.YtbebgobboccjcaaGreatDoor
open Go.RowKit Kit
set_option linter.unusedVariables false

theorem SeesS.take {w : World} {ao : Option Addr} {n cap : Nat} {ps : List (ByteArray × Int)} (h : SeesS w (.slice ao n cap) ps) (m : Nat) (hm : m ≤ n) : SeesS w (.slice ao m cap) (ps.take m) := by
 obtain ⟨a0, c0, e, h1, h2, h3, h4⟩ := h
 injection e with e1 e2 e3
 subst e1 e3
 have hl : (ps.take m).length = m := by rw [List.length_take]; omega
 refine ⟨ao, cap, by rw [hl], by omega, h2, h3, fun h0 => ?_⟩
 obtain ⟨b, off, e, hb, hc⟩ := h4 (by omega)
 refine ⟨b, off, e, hb, fun j x hx => hc j x ?_⟩
 have hj := (List.getElem?_eq_some_iff.1 hx).1
 have e3 : flatS ps = flatS (ps.take m) ++ flatS (ps.drop m) := by rw [← flatS_append, List.take_append_drop]
 rw [e3, List.getElem?_append_left hj]; exact hx
theorem SeesS.drop {w : World} {ao : Option Addr} {n cap : Nat} {ps : List (ByteArray × Int)} (h : SeesS w (.slice ao n cap) ps) (m : Nat) (hm : m ≤ n) : SeesS w (.slice (if cap = m then ao else ao.map (fun a => a.add (m * 2))) (n - m) (cap - m)) (ps.drop m) := by
 obtain ⟨a0, c0, e, h1, h2, h3, h4⟩ := h
 injection e with e1 e2 e3
 subst e1 e3
 have hl : (ps.drop m).length = n - m := by rw [List.length_drop]; omega
 refine ⟨_, cap - m, by rw [hl], by omega, by omega, fun hn => ?_, fun h0 => ?_⟩
 · by_cases c : cap = m
   · omega
   · rw [if_neg c] at hn
     cases ao with
     | none => have := h3 rfl; omega
     | some a => cases hn
 · obtain ⟨b, off, e, hb, hc⟩ := h4 (by omega)
   refine ⟨b, off + m * 2, by rw [if_neg (by omega), e, Option.map_some, Addr.add_lit], hb, fun j x hx => ?_⟩
   rw [Nat.add_assoc]
   refine hc (m * 2 + j) x ?_
   have e3 : flatS ps = flatS (ps.take m) ++ flatS (ps.drop m) := by rw [← flatS_append, List.take_append_drop]
   have e4 : (flatS (ps.take m)).length = m * 2 := by rw [flatS_len, List.length_take]; omega
   rw [e3, List.getElem?_append_right (by omega), e4, Nat.add_sub_cancel_left]; exact hx
theorem slots_elem : Tryz.prog.underlying 68 = some (.slice (Tryz.prog.elem 68)) := by kernel_rfl
theorem slots_size (w : World) : (sizeOf (Tryz.prog.elem 68)).run Tryz.prog w = .ok 2 w := by kernel_rfl
theorem cut_runs {w : World} {sa : Option Addr} {n sc : Nat} {ps : List (ByteArray × Int)} (h : SeesS w (.slice sa n sc) ps) (i j : Nat) (hi : i ≤ n) (hj : j ≤ n) :
 ∃ a2 c2, (∀ W, (Instr.slice 68 (.slice sa n sc) none (some (.int .i64 (i : Int))) none).run Tryz.prog W = .ok (.slice sa i sc) W) ∧ (∀ W, (Instr.slice 68 (.slice sa n sc) (some (.int .i64 (j : Int))) none none).run Tryz.prog W = .ok (.slice a2 (n - j) c2) W) ∧ SeesS w (.slice sa i sc) (ps.take i) ∧ SeesS w (.slice a2 (n - j) c2) (ps.drop j) := by
 have hc : n ≤ sc := by
  obtain ⟨a0, c0, e, h1, _⟩ := id h
  injection e with e1 e2 e3
  omega
 refine ⟨_, _, fun W => ?_, fun W => ?_, h.take i hi, h.drop j hj⟩
 · rw [run_slice_h (P := Tryz.prog) W 68 sa n sc slots_elem .i64 (i : Int) (by omega) (by omega), slots_size]
   simp [sliced, Result.andThen]
   intro e
   cases sa <;> simp [Addr.add]
 · rw [run_slice_l (P := Tryz.prog) W 68 sa n sc slots_elem .i64 (j : Int) (by omega) (by omega), slots_size]
   simp [sliced, Result.andThen]
theorem RowS.form {w : World} {base : Nat} {v : Value} {ps : List (ByteArray × Int)} (h : RowS w base v ps) (h0 : 0 < ps.length) : ∃ g cap, v = .slice (some ⟨g, 0, none⟩) ps.length cap ∧ base ≤ g := by
 unfold RowS at h
 rcases h.2 with ⟨_, h2⟩ | ⟨g, cap, cur, hv, hg, _⟩
 · omega
 · exact ⟨g, cap, hv, hg⟩
theorem seesS_one (w : World) (s : ByteArray) (i : Int) : SeesS (w.alloc (.cells #[.string s, .int .i64 i] 97)) (.slice (some ⟨w.heap.size, 0, none⟩) 1 1) [(s, i)] := by
 refine ⟨_, 1, rfl, by simp, by unfold maxLen; omega, by simp, fun _ => ⟨w.heap.size, 0, rfl, by simp, ?_⟩⟩
 intro j y hy
 match j, hy with
 | 0, hy => simp [flatS, slotC] at hy; subst hy; simp
 | 1, hy => simp [flatS, slotC] at hy; subst hy; simp
theorem sees_lit (w : World) (xs : List Value) (e : TypeId) (hm : xs.length ≤ 1000) : Sees (w.alloc (.cells xs.toArray e)) (.slice (some ⟨w.heap.size, 0, none⟩) xs.length xs.length) xs :=
 RowV.sees (rowV_lit w w.heap.size e xs (Nat.le_refl _) (by unfold maxLen; omega))
def NBox (w : World) (B : Nat) (kd : Int) (d sv : Value) : Prop := w.heap[B]? = some (.cells #[.int .i64 kd, d, sv] 70)
theorem NBox.c {w : World} {B : Nat} {kd : Int} {d sv : Value} (h : NBox w B kd d sv) : w.cell? ⟨B, 0, none⟩ = some (.int .i64 kd) ∧ w.cell? ⟨B, 1, none⟩ = some d ∧ w.cell? ⟨B, 2, none⟩ = some sv ∧ (∀ j, w.frozen? ⟨B, j, none⟩ = false) ∧ B < w.heap.size := by
 have hl := (Array.getElem?_eq_some_iff.1 h).1
 unfold NBox at h
 refine ⟨?_, ?_, ?_, ?_, hl⟩ <;> simp [World.cell?, World.frozen?, h]
theorem NBox.below {w w' : World} {B : Nat} {kd : Int} {d sv : Value} (h : NBox w B kd d sv) (hb : Below w.heap.size w w') : NBox w' B kd d sv := (hb.block B h.c.2.2.2.2).trans h
theorem NBox.set2 {w : World} {B : Nat} {kd : Int} {d sv : Value} (h : NBox w B kd d sv) (v : Value) : NBox (w.setCell ⟨B, 2, none⟩ v) B kd d v := by
 unfold NBox at *
 simp [World.setCell, Array.getElem?_modify, h]
theorem seesS_set {w : World} {g m cap B : Nat} {ps : List (ByteArray × Int)} {v : Value} (h : SeesS w (.slice (some ⟨g, 0, none⟩) m cap) ps) (hne : g ≠ B) (o : Nat) : SeesS (w.setCell ⟨B, o, none⟩ v) (.slice (some ⟨g, 0, none⟩) m cap) ps := by
 obtain ⟨ao, c, e, h1, h2, h3, h4⟩ := h
 injection e with e1 e2 e3
 subst e1 e3
 refine ⟨_, _, by rw [e2], h1, h2, h3, fun h0 => ?_⟩
 obtain ⟨b, off, e, hb, hc⟩ := h4 h0
 refine ⟨b, off, e, by simpa [World.setCell] using hb, fun j x hx => ?_⟩
 have hbg : b = g := by injection e with e; injection e with e _ _; exact e.symm
 rw [← hc j x hx]
 simp only [World.cell?]
 rw [Below.heap_setCell _ _ _ b (by show b ≠ B; omega)]
theorem put_tail {w w3 : World} {p b B : Nat} {t : TreeB} {k : Nat} {da sa' : Option Addr} {dc m cap : Nat} (hT : DTree w p b t) (ht : Fair t) (hk : k < t.nodes.length) (hk2 : (nodeAt t k).kind = 2) (n' : NodeB) (hi : n'.ino = (nodeAt t k).ino) (hkk : n'.kind = 2) (hd : n'.data = (nodeAt t k).data)
 (hdv : Sees w (.slice da (nodeAt t k).data.length dc) (intsV .u8 (nodeAt t k).data)) (hB : w.heap.size ≤ B) (hb : Below w.heap.size w w3) (hsv : SeesS (w3.setCell ⟨B, 2, none⟩ (.slice sa' m cap)) (.slice sa' m cap) (pairsB n')) :
 ∃ w5, (Instr.mapUpdate 50 (.map (some b)) (.int .i64 (nodeAt t k).ino) (.agg #[.int .i64 2, .slice da (nodeAt t k).data.length dc, .slice sa' m cap])).run Tryz.prog (w3.setCell ⟨B, 2, none⟩ (.slice sa' m cap)).drew = .ok () w5 ∧ DTree w5 p b (setB t k n') ∧ Turn p b w w5 := by
 obtain ⟨W4, hW4⟩ : ∃ z, z = w3.setCell ⟨B, 2, none⟩ (.slice sa' m cap) := ⟨_, rfl⟩
 have hb4 : Below w.heap.size w W4 := by rw [hW4]; exact hb.setCell (by exact hB) _
 rw [← hW4] at hsv ⊢
 have hT4 : DTree W4.drew p b t := hT.below hb4.drew
 obtain ⟨w5, h1, h2, h3, h4⟩ := hT4.put (w1 := W4) ht hk ⟨n', .slice da (nodeAt t k).data.length dc, .slice sa' m cap⟩ hi ⟨by
  show Sees W4.drew (.slice da (nodeAt t k).data.length dc) (intsV .u8 n'.data)
  rw [hd]
  exact hdv.below hb4.drew, hsv⟩
 refine ⟨w5, ?_, h2, (turn_below hb4.drew).trans h3⟩
 have e : (⟨n', .slice da (nodeAt t k).data.length dc, .slice sa' m cap⟩ : DN).val = .agg #[.int .i64 2, .slice da (nodeAt t k).data.length dc, .slice sa' m cap] := by unfold DN.val; simp only; rw [hkk]
 rw [e] at h1
 exact h1
end Go.Proofs.YtbebgobboccjcaaGreatDoor
namespace Go.Proofs.YtbebgobboccjcaaGreatDoor
open Go.RowKit Kit
set_option linter.unusedVariables false

def unnameB (t : TreeB) (d : Nat) (s : ByteArray) : TreeB :=
 if linksD (setB t d (withoutB (nodeAt t d) s)) (nameB (nodeAt t d) s) = 0 then ⟨(setB t d (withoutB (nodeAt t d) s)).nodes.filter (fun n => !(n.ino == nameB (nodeAt t d) s)), t.next⟩ else setB t d (withoutB (nodeAt t d) s)
theorem fair_set {t : TreeB} (h : Fair t) {d : Nat} (hd : d < t.nodes.length) {n : NodeB} (hi : n.ino = (nodeAt t d).ino) (hk : n.kind = (nodeAt t d).kind) (ok : NodeOK n) (hl : ∀ i ∈ n.inos, i ≠ 1 ∧ ∃ m ∈ t.nodes, m.ino = i) (hn : n.names.length ≤ 10000) : Fair (setB t d n) := by
 have hr0 := h.root0
 refine ⟨?_, by rw [set_len]; exact h.size, h.next, ?_, fun m hm => ?_, fun m hm => ?_, fun m hm i hmi => ?_, fun m hm => ?_⟩
 · have hl0 : 0 < (setB t d n).nodes.length := by rw [set_len]; exact hr0.1
   obtain ⟨r, l, e⟩ : ∃ r l, (setB t d n).nodes = r :: l := by
    cases hx : (setB t d n).nodes with
    | nil => rw [hx] at hl0; simp at hl0
    | cons r l => exact ⟨r, l, rfl⟩
   have e2 : nodeAt (setB t d n) 0 = r := by unfold nodeAt; rw [e]; rfl
   refine ⟨r, l, e, ?_, ?_⟩
   · rw [← e2]
     by_cases c : d = 0
     · subst c; rw [set_at hd, hi]; exact hr0.2.1
     · rw [set_at_ne c]; exact hr0.2.1
   · rw [← e2]
     by_cases c : d = 0
     · subst c; rw [set_at hd, hk]; exact hr0.2.2
     · rw [set_at_ne c]; exact hr0.2.2
 · rw [rises_map, set_inos hd hi, ← rises_map]; exact h.rise
 · rcases set_mem hm with e | e
   · exact h.below m e
   · rw [e, hi]; exact h.below _ (nodeAt_mem hd)
 · rcases set_mem hm with e | e
   · exact h.each m e
   · rw [e]; exact ok
 · have : i ≠ 1 ∧ ∃ m ∈ t.nodes, m.ino = i := by
    rcases set_mem hm with e | e
    · exact h.leads m e i hmi
    · subst e; exact hl i hmi
   exact ⟨this.1, (set_has hd hi i).2 this.2⟩
 · rcases set_mem hm with e | e
   · exact h.names m e
   · rw [e]; exact hn
theorem without_len {n : NodeB} (s : ByteArray) : (withoutB n s).names.length ≤ n.names.length := by
 unfold withoutB
 simp only
 rw [List.length_map]
 refine Nat.le_trans (List.length_filter_le _ _) ?_
 unfold pairsB
 rw [List.length_zip]; omega
theorem fair_without {t : TreeB} (h : Fair t) {d : Nat} (hd : d < t.nodes.length) (hk : (nodeAt t d).kind = 2) (s : ByteArray) : Fair (setB t d (withoutB (nodeAt t d) s)) :=
 fair_set h hd rfl rfl (without_ok (h.each _ (nodeAt_mem hd)) hk s) (fun i hi => h.leads _ (nodeAt_mem hd) i (without_sub hi)) (Nat.le_trans (without_len s) (h.names _ (nodeAt_mem hd)))
theorem RowS.shape {w : World} {base : Nat} {v : Value} {ps : List (ByteArray × Int)} (h : RowS w base v ps) : ∃ ao cap, v = .slice ao ps.length cap ∧ (∀ a, ao = some a → base ≤ a.block) := by
 unfold RowS at h
 rcases h.2 with ⟨h1, h2⟩ | ⟨g, cap, cur, hv, hg, _⟩
 · exact ⟨none, 0, by rw [h2]; exact h1, fun a e => by cases e⟩
 · exact ⟨some ⟨g, 0, none⟩, cap, hv, fun a e => by injection e with e; subst e; exact hg⟩
theorem seesS_set' {w : World} {ao : Option Addr} {m cap B : Nat} {ps : List (ByteArray × Int)} {v : Value} (h : SeesS w (.slice ao m cap) ps) (hne : ∀ a, ao = some a → a.block ≠ B) (o : Nat) : SeesS (w.setCell ⟨B, o, none⟩ v) (.slice ao m cap) ps := by
 obtain ⟨a0, c, e, h1, h2, h3, h4⟩ := h
 injection e with e1 e2 e3
 subst e1 e3
 refine ⟨_, _, by rw [e2], h1, h2, h3, fun h0 => ?_⟩
 obtain ⟨b, off, e, hb, hc⟩ := h4 h0
 refine ⟨b, off, e, by simpa [World.setCell] using hb, fun j x hx => ?_⟩
 have hbg := hne _ e
 rw [← hc j x hx]
 simp only [World.cell?]
 rw [Below.heap_setCell _ _ _ b hbg]
set_option maxRecDepth 4000 in
set_option maxHeartbeats 16000000 in
theorem dunname_any (s : ByteArray) (w : World) (p b : Nat) (t : TreeB) (k : Nat) (hT : DTree w p b t) (ht : Fair t) (hk : k < t.nodes.length) (hk2 : (nodeAt t k).kind = 2) (hs : s ∈ (nodeAt t k).names) :
 Calls Tryz.prog 101 #[.pointer (some ⟨p, 0, none⟩), .int .i64 (nodeAt t k).ino, .string s] w fun e w' => e = .returned (.tuple #[]) ∧ DTree w' p b (unnameB t k s) ∧ Turn p b w w' := by
 have ok := ht.each _ (nodeAt_mem hk)
 have hnm := ht.names _ (nodeAt_mem hk)
 have hz := ht.nz (nodeAt_mem hk)
 obtain ⟨da, dc, sa, sc, hlook⟩ := hT.lookAt ht hk
 have hl0 := (hlook w (Below.refl _ _)).1
 have c0 := (hlook w (Below.refl _ _)).2.1
 have HSR : Hid (∀ W, Below w.heap.size w W → _) := fun W hW => dsearch_any (dnOf (nodeAt t k) da dc sa sc) s W ((hlook W hW).2.2) ok.1 ok.len (by show (nodeAt t k).names.length ≤ _; omega)
 have hsv := (hlook w (Below.refl _ _)).2.2.2
 have hpl : (pairsB (nodeAt t k)).length = (nodeAt t k).names.length := by unfold pairsB; rw [List.length_zip]; have := ok.len; omega
 have HHAS : Hid (hasB (nodeAt t k).names s = true) := has_iff.2 hs
 obtain ⟨hlo, _⟩ := (low_mem ok.1).1 hs
 have hnl := name_low ok s
 rw [HHAS.out, if_pos rfl] at hnl
 have HPW : Hid (pairsB (withoutB (nodeAt t k) s) = _) := pairs_without ok hs
 have hdn : (dnOf (nodeAt t k) da dc sa sc).val = .agg #[.int .i64 2, .slice da (nodeAt t k).data.length dc, .slice sa (nodeAt t k).names.length sc] := by unfold DN.val dnOf; simp only; rw [hk2]
 have e3 : (dnOf (nodeAt t k) da dc sa sc).n = nodeAt t k := rfl
 rw [hdn, e3, HHAS.out] at HSR
 obtain ⟨i, hi⟩ : ∃ i, lowB (nodeAt t k).names s = i := ⟨_, rfl⟩
 rw [hi] at HSR HPW hlo hnl
 obtain ⟨a2, c2, r1, r2, q1, q2⟩ := cut_runs (w := w) (sa := sa) (n := (nodeAt t k).names.length) (sc := sc) hsv i (i + 1) (by omega) (by omega)
 -- the slot that goes
 obtain ⟨g0, o0, hsa, hg0, hcell⟩ : ∃ g0 o0, sa = some ⟨g0, o0, none⟩ ∧ g0 < w.heap.size ∧ w.cell? ⟨g0, o0 + i * 2 + 1, none⟩ = some (.int .i64 (nameB (nodeAt t k) s)) := by
  obtain ⟨ao, cap, e, h1, h2, h3, h4⟩ := hsv
  obtain ⟨b', off, e4, hb', hc⟩ := h4 (by rw [e3, hpl]; omega)
  have hsa : sa = ao := by
   have : (dnOf (nodeAt t k) da dc sa sc).s = .slice sa (nodeAt t k).names.length sc := rfl
   rw [this] at e
   injection e
  refine ⟨b', off, hsa.trans e4, hb', ?_⟩
  have c1 := (at2_of hc (k := i) (by rw [e3, hpl]; exact hlo)).2
  rw [c1, hnl]
  have hil : i < (nodeAt t k).inos.length := by rw [← ok.len]; exact hlo
  simp [pairsB, List.getD, hil, dnOf]
 subst hsa
 obtain ⟨n, hn⟩ : ∃ n, (nodeAt t k).names.length = n := ⟨_, rfl⟩
 obtain ⟨dn, hdl⟩ : ∃ n, (nodeAt t k).data.length = n := ⟨_, rfl⟩
 obtain ⟨ii, hii⟩ : ∃ x, (nodeAt t k).ino = x := ⟨_, rfl⟩
 obtain ⟨mi, hmi⟩ : ∃ x, nameB (nodeAt t k) s = x := ⟨_, rfl⟩
 have hmb : 0 ≤ mi ∧ mi ≤ 2199023255552 := by
  have h0 : nameB (nodeAt t k) s ≠ 0 := (has_name ok hz s).1 HHAS.out
  obtain ⟨k', h1, h2, h3, h4⟩ := ht.step hk h0
  have h5 := ht.pos _ (nodeAt_mem h2)
  have h6 := ht.below _ (nodeAt_mem h2)
  rw [h3, hmi] at h5 h6
  omega
 rw [hn] at r1 r2 q2 hl0 HSR hlo hpl hnm
 rw [hdl] at hl0 HSR
 rw [hii, hk2] at hl0
 rw [hmi] at hcell
 rw [hii]
 -- what Concat answers
 have HCC : Hid (∀ W, Below w.heap.size w W → NBox W w.heap.size 2 (.slice da dn dc) (.slice (some ⟨g0, o0, none⟩) n sc) → Calls Tryz.prog 129 #[.slice (some ⟨W.heap.size, 0, none⟩) 2 2] (W.alloc (.cells #[.slice (some ⟨g0, o0, none⟩) i sc, .slice a2 (n - (i + 1)) c2] 68)) fun e w' => ∃ ao cap m, e = .returned (.slice ao m cap) ∧ w'.cell? ⟨w.heap.size, 0, none⟩ = some (.int .i64 2) ∧ w'.cell? ⟨w.heap.size, 1, none⟩ = some (.slice da dn dc) ∧ w'.cell? ⟨w.heap.size, 2, none⟩ = some (.slice (some ⟨g0, o0, none⟩) n sc) ∧ (∀ j, w'.frozen? ⟨w.heap.size, j, none⟩ = false) ∧ Hid ((∀ a, ao = some a → w.heap.size < a.block) ∧ SeesS w' (.slice ao m cap) (pairsB (withoutB (nodeAt t k) s)) ∧ NBox w' w.heap.size 2 (.slice da dn dc) (.slice (some ⟨g0, o0, none⟩) n sc) ∧ Below w.heap.size w w')) := fun W hW hB => by
  have b1 : Below W.heap.size W (W.alloc (.cells #[.slice (some ⟨g0, o0, none⟩) i sc, .slice a2 (n - (i + 1)) c2] 68)) := (Below.refl _ _).alloc (Nat.le_refl _) _
  have sl := sees_lit W [.slice (some ⟨g0, o0, none⟩) i sc, .slice a2 (n - (i + 1)) c2] 68 (by simp)
  have hWs : W.heap.size ≤ (W.alloc (.cells #[.slice (some ⟨g0, o0, none⟩) i sc, .slice a2 (n - (i + 1)) c2] 68)).heap.size := b1.size
  obtain ⟨W2, hW2⟩ : ∃ z, z = W.alloc (.cells #[.slice (some ⟨g0, o0, none⟩) i sc, .slice a2 (n - (i + 1)) c2] 68) := ⟨_, rfl⟩
  have sl : Sees W2 (.slice (some ⟨W.heap.size, 0, none⟩) 2 2) [.slice (some ⟨g0, o0, none⟩) i sc, .slice a2 (n - (i + 1)) c2] := by rw [hW2]; exact sl
  rw [← hW2] at b1 hWs ⊢
  have bw : Below w.heap.size w W2 := bel2v hW b1
  have hl1 : ((pairsB (nodeAt t k)).take i).length = i := by rw [List.length_take]; omega
  have hl2 : ((pairsB (nodeAt t k)).drop (i + 1)).length = n - (i + 1) := by rw [List.length_drop]; omega
  refine (dconcat_any _ _ [(pairsB (nodeAt t k)).take i, (pairsB (nodeAt t k)).drop (i + 1)] W2 sl (by simp) (by simp) (fun j h1 h2 => ?_) (by simp [hl1, hl2]; omega)).mono ?_
  · match j, h1, h2 with
    | 0, _, _ => exact q1.below bw
    | 1, _, _ => exact q2.below bw
  · rintro e w' ⟨r, rfl, hr, hb⟩
    have hfl : [(pairsB (nodeAt t k)).take i, (pairsB (nodeAt t k)).drop (i + 1)].flatten = pairsB (withoutB (nodeAt t k) s) := by rw [HPW.out]; simp
    rw [hfl] at hr
    obtain ⟨ao, cap, rfl, hg⟩ := hr.shape
    have hB2 := (hB.below b1).below hb
    obtain ⟨d0, d1, d2, d3, _⟩ := hB2.c
    have hBl := hB.c.2.2.2.2
    exact ⟨ao, cap, _, rfl, d0, d1, d2, d3, ⟨fun a ha => by have := hg a ha; omega, hr.sees, hB2, bel2v bw hb⟩⟩
 have HDV : Hid (Sees w (.slice da dn dc) (intsV .u8 (nodeAt t k).data)) := by
  have := (hlook w (Below.refl _ _)).2.2.1
  show Sees _ _ _
  rw [← hdl]; exact this
 have HW : Hid ((withoutB (nodeAt t k) s).ino = (nodeAt t k).ino ∧ (withoutB (nodeAt t k) s).kind = 2 ∧ (withoutB (nodeAt t k) s).data = (nodeAt t k).data) := by
  refine ⟨rfl, hk2, ?_⟩
  rcases ok.2.2 with h | h
  · rw [h.2.1]; rfl
  · omega
 have HTL : Hid (∀ w3 ao cap m, (∀ a, ao = some a → w.heap.size < a.block) → SeesS w3 (.slice ao m cap) (pairsB (withoutB (nodeAt t k) s)) → Below w.heap.size w w3 → NBox w3 w.heap.size 2 (.slice da dn dc) (.slice (some ⟨g0, o0, none⟩) n sc) → ∃ w5, (Instr.mapUpdate 50 (.map (some b)) (.int .i64 ii) (.agg #[.int .i64 2, .slice da dn dc, .slice ao m cap])).run Tryz.prog (w3.setCell ⟨w.heap.size, 2, none⟩ (.slice ao m cap)).drew = .ok () w5 ∧ Hid (DTree w5 p b (setB t k (withoutB (nodeAt t k) s)) ∧ Turn p b w w5) ∧
  (w3.setCell ⟨w.heap.size, 2, none⟩ (.slice ao m cap)).cell? ⟨w.heap.size, 0, none⟩ = some (.int .i64 2) ∧ (w3.setCell ⟨w.heap.size, 2, none⟩ (.slice ao m cap)).cell? ⟨w.heap.size, 1, none⟩ = some (.slice da dn dc) ∧ (w3.setCell ⟨w.heap.size, 2, none⟩ (.slice ao m cap)).cell? ⟨w.heap.size, 2, none⟩ = some (.slice ao m cap) ∧ (w3.setCell ⟨w.heap.size, 2, none⟩ (.slice ao m cap)).cell? ⟨p, 0, none⟩ = some (.map (some b))) := fun w3 ao cap m hg h1 h2 h3 => by
  have hdv := HDV.out
  rw [← hdl] at hdv
  obtain ⟨w5, k1, k2, k3⟩ := put_tail hT ht hk hk2 (withoutB (nodeAt t k) s) HW.out.1 HW.out.2.1 HW.out.2.2 hdv (Nat.le_refl w.heap.size) h2 (seesS_set' h1 (fun a ha => by have := hg a ha; omega) 2)
  rw [hdl, hii] at k1
  have hc := (h3.set2 (.slice ao m cap)).c
  exact ⟨w5, k1, ⟨k2, k3⟩, hc.1, hc.2.1, hc.2.2.1, ((h2.setCell (Nat.le_refl _) _).cell (by exact hT.cells.2.2.2.1)).trans hT.cells.1⟩
 have HFW : Hid (Fair (setB t k (withoutB (nodeAt t k) s))) := fair_without ht hk hk2 s
 have HU : Hid (unnameB t k s = if linksD (setB t k (withoutB (nodeAt t k) s)) mi = 0 then ⟨(setB t k (withoutB (nodeAt t k) s)).nodes.filter (fun n => !(n.ino == mi)), t.next⟩ else setB t k (withoutB (nodeAt t k) s)) := by show _ = _; unfold unnameB; rw [hmi]
 obtain ⟨t1, ht1⟩ : ∃ z, setB t k (withoutB (nodeAt t k) s) = z := ⟨_, rfl⟩
 have hnx : t.next = t1.next := by rw [← ht1]; rfl
 rw [ht1, hnx] at HU
 rw [ht1] at HTL HFW
 have HLN : Hid (∀ W, DTree W p b t1 → Calls Tryz.prog 29 #[.pointer (some ⟨p, 0, none⟩), .int .i64 mi] W fun e w' => e = .returned (.int .i64 (linksD t1 mi : Nat)) ∧ Below W.heap.size W w') := fun W hW => dlinks_any mi W p b t1 hW HFW.out
 have HDL : Hid (∀ W, DTree W p b t1 → _) := fun W hW => hW.less' (i := mi) hmb
 obtain ⟨u, hu⟩ : ∃ u, unnameB t k s = u := ⟨_, rfl⟩
 rw [hu] at HU ⊢
 have il : (i : Int) < (n : Int) := by omega
 have nl : (n : Int) ≤ 10000 := by omega
 have hwi : IntKind.i64.wrap ((i : Int) + 1) = (i : Int) + 1 := by rw [IntKind.wrap_i64]; omega
 have r3 : ∀ W, (Instr.slice 68 (.slice (some ⟨g0, o0, none⟩) n sc) (some (.int .i64 ((i : Int) + 1))) none none).run Tryz.prog W = .ok (.slice a2 (n - (i + 1)) c2) W := fun W => by
  have := r2 W
  rw [show ((i + 1 : Nat) : Int) = (i : Int) + 1 by omega] at this
  exact this
 have HB0 : Hid (NBox (w.alloc (.cells #[.int .i64 2, .slice da dn dc, .slice (some ⟨g0, o0, none⟩) n sc] 70)) w.heap.size 2 (.slice da dn dc) (.slice (some ⟨g0, o0, none⟩) n sc)) := (MapKept.heap_alloc w _).1
 have HCE : Hid (g0 < w.heap.size ∧ w.cell? ⟨g0, o0 + i * 2 + 1, none⟩ = some (.int .i64 mi)) := ⟨hg0, hcell⟩
 clear hlook hT ht ok hnm hsv hpl hlo HHAS hdn e3 q1 q2 hn hdl hs hi HPW HDV HW hk2 hii hz hnl hmi hmb ht1 hnx hu hg0 hcell HFW r2
 go_enter Tryz.func101, Tryz.ntmps101
 go_wp2_with fail
 go_at_call 116
 refine (HSR.out _ ((Below.refl _ _).alloc (Nat.le_refl _) _)).mono ?_
 rintro e w1 ⟨rfl, hb1⟩
 have H1 : Hid (NBox w1 w.heap.size 2 (.slice da dn dc) (.slice (some ⟨g0, o0, none⟩) n sc) ∧ Below w.heap.size w w1) := ⟨HB0.out.below hb1, bel2v ((Below.refl _ _).alloc (Nat.le_refl _) _) hb1⟩
 obtain ⟨d0, d1, d2, d3, _⟩ := H1.out.1.c
 have hce : w1.cell? ⟨g0, o0 + i * 2 + 1, none⟩ = some (.int .i64 mi) := (H1.out.2.cell (by exact HCE.out.1)).trans HCE.out.2
 have HCC1 : Hid (Calls Tryz.prog 129 #[.slice (some ⟨w1.heap.size, 0, none⟩) 2 2] (w1.alloc (.cells #[.slice (some ⟨g0, o0, none⟩) i sc, .slice a2 (n - (i + 1)) c2] 68)).drew _) := HCC.out w1.drew H1.out.2.drew (by exact H1.out.1)
 clear hb1 HSR HB0 hl0 HCC HCE
 go_wp2
 go_region_with (first
  | (go_at_call 129; refine HCC1.out.mono ?_; rintro e w3 ⟨ao, cap, m, rfl, k0, k1, k2, k3, H3⟩))
 all_goals (
  obtain ⟨w5, hput, H5, m0, m1, m2, m3⟩ := HTL.out w3 ao cap m H3.out.1 H3.out.2.1 H3.out.2.2.2 H3.out.2.2.1
  clear HTL HCC1 H3 H1 k0 k1 k2 k3 d0 d1 d2 d3 hce
  generalize (w3.setCell ⟨w.heap.size, 2, none⟩ (.slice ao m cap)) = W4 at *
  go_wp2
  go_region
  have HL5 : Hid (Calls Tryz.prog 29 _ _ _) := HLN.out w5 H5.out.1
  have c5 := H5.out.1.cells.1
  clear hput m0 m1 m2 m3
  go_wp2_with fail
  go_at_call 29
  refine HL5.out.mono ?_
  rintro e w6 ⟨rfl, hb6⟩
  have H6 : Hid (DTree w6 p b t1 ∧ Turn p b w w6) := ⟨H5.out.1.below hb6, H5.out.2.trans (turn_below hb6)⟩
  have c6 := H6.out.1.cells.1
  obtain ⟨w7, hdel, g7, t7, _⟩ := HDL.out w6 H6.out.1
  have H7 : Hid (DTree w7 p b ⟨t1.nodes.filter (fun n => !(n.ino == mi)), t1.next⟩ ∧ Turn p b w w7) := ⟨g7, H6.out.2.trans t7⟩
  clear hb6 HL5 HLN HDL g7 t7
  by_cases hl : linksD t1 mi = 0
  · have HE : Hid (u = ⟨t1.nodes.filter (fun n => !(n.ino == mi)), t1.next⟩) := by show _ = _; rw [HU.out, if_pos hl]
    rw [hl]
    clear HU hl
    go_wp2
    go_end0
    rw [HE.out]
    exact ⟨rfl, H7.out⟩
  · have HE : Hid (u = t1) := by show _ = _; rw [HU.out, if_neg hl]
    have hlz : (((linksD t1 mi : Nat) : Int) == 0) = false := beq_eq_false_iff_ne.2 (by omega)
    clear HU hl hdel
    go_wp2
    go_end0
    rw [HE.out]
    exact ⟨rfl, H6.out⟩)
end Go.Proofs.YtbebgobboccjcaaGreatDoor
namespace Go.Proofs.YtbebgobboccjcaaGreatDoor
open Go.RowKit Kit
set_option linter.unusedVariables false

theorem Fair.links {x : TreeB} (h : Fair x) {n : NodeB} (hn : n ∈ x.nodes) : linksB x n.ino = linksD x n.ino := by
 unfold linksB linksD
 obtain ⟨k, hk⟩ := placeO_of hn
 rw [hk, if_neg (by simp)]
 by_cases e : n.ino = 1
 · rw [if_pos e, if_pos e]
 · rw [if_neg e, if_neg e]
   unfold kidsB
   congr 1
   apply List.map_congr_left
   intro m hm
   exact countB_eq (h.each m hm) _
theorem name_index {n : NodeB} (ok : NodeOK n) {s : ByteArray} (h : nameB n s ≠ 0) : ∃ j, ∃ hj : j < n.names.length, n.names[j] = s ∧ n.inos[j]'(by rw [← ok.len]; exact hj) = nameB n s := by
 obtain ⟨_, i, hi, e1, e2⟩ := nameB_some ok.len h
 exact ⟨i, hi, e1, e2⟩
theorem kids_unname {t : TreeB} (h : Fair t) {d : Nat} (hd : d < t.nodes.length) {s : ByteArray} (hn : nameB (nodeAt t d) s ≠ 0) (i : Int) : kidsB (setB t d (withoutB (nodeAt t d) s)) i + (if nameB (nodeAt t d) s = i then 1 else 0) = kidsB t i := by
 have ok := h.each _ (nodeAt_mem hd)
 obtain ⟨j, hj, e1, e2⟩ := name_index ok hn
 have := kids_without hd ok hj i
 rw [e1, e2] at this
 exact this
theorem unname_swept {t : TreeB} (h : Good t) {d : Nat} (hd : d < t.nodes.length) (hk : (nodeAt t d).kind = 2) {s : ByteArray} (hn : nameB (nodeAt t d) s ≠ 0) : unnameB t d s = sweptB (setB t d (withoutB (nodeAt t d) s)) := by
 have hf := h.e.fair
 have hx := fair_without hf hd hk s
 obtain ⟨k', p1, p2, p3, p4⟩ := hf.step hd hn
 have hkid := kids_unname hf hd hn
 unfold unnameB
 obtain ⟨c, hc⟩ : ∃ c, nameB (nodeAt t d) s = c := ⟨_, rfl⟩
 rw [hc] at hkid p4 ⊢
 obtain ⟨x, hxe⟩ : ∃ x, setB t d (withoutB (nodeAt t d) s) = x := ⟨_, rfl⟩
 have hnx : x.next = t.next := by rw [← hxe]; rfl
 have hin : ∀ n ∈ x.nodes, ∃ m ∈ t.nodes, m.ino = n.ino := fun n hn2 => by
  have : (∃ m ∈ x.nodes, m.ino = n.ino) := ⟨n, hn2, rfl⟩
  rw [← hxe] at this
  exact (set_has (n := withoutB (nodeAt t d) s) hd rfl n.ino).1 this
 rw [hxe] at hkid hx ⊢
 have hother : ∀ n ∈ x.nodes, n.ino ≠ c → 0 < linksB x n.ino := fun n hn2 hne => by
  rw [hx.links hn2]
  unfold linksD
  split
  · omega
  · rename_i h1
    obtain ⟨m, hm, e⟩ := hin n hn2
    have h2 := h.2 m hm (by rw [e]; exact h1)
    have h3 := hkid n.ino
    rw [if_neg (fun e => hne e.symm)] at h3
    rw [e] at h2
    omega
 have hcl : ∀ n ∈ x.nodes, n.ino = c → linksB x n.ino = linksD x c := fun n hn2 e => by rw [hx.links hn2, e]
 unfold sweptB
 by_cases h0 : linksD x c = 0
 · rw [if_pos h0]
   congr 1
   · apply List.filter_congr
     intro n hn2
     by_cases e : n.ino = c
     · rw [hcl n hn2 e, h0, e]; simp
     · have h1 := hother n hn2 e
       have h2 : (n.ino == c) = false := beq_eq_false_iff_ne.2 e
       rw [h2, decide_eq_true h1]; rfl
   · exact hnx.symm
 · rw [if_neg h0]
   have : x.nodes.filter (fun n => decide (0 < linksB x n.ino)) = x.nodes := by
    rw [List.filter_eq_self]
    intro n hn2
    apply decide_eq_true
    by_cases e : n.ino = c
    · rw [hcl n hn2 e]; omega
    · exact hother n hn2 e
   rw [this]
end Go.Proofs.YtbebgobboccjcaaGreatDoor
namespace Go.Proofs.YtbebgobboccjcaaGreatDoor
open Go.RowKit Kit
set_option linter.unusedVariables false

def Has (t : TreeB) (n : NodeB) : Prop := n ∈ t.nodes
theorem with_name_ne {n : NodeB} (ok : NodeOK n) (hk : n.kind = 2) {s q : ByteArray} (hs : s ∉ n.names) (ho : okB s = true ∧ s.size ≤ 12) (hq : q ≠ s) (a : Int) (hn : nameB n q ≠ 0) : nameB (withB n s a) q = nameB n q := by
 have okw := with_ok ok hk hs ho a
 obtain ⟨j, hj, e1, e2⟩ := name_index ok hn
 have hmem : (q, nameB n q) ∈ pairsB n := by
  have hj2 : j < n.inos.length := by rw [← ok.len]; exact hj
  have hj3 : j < (pairsB n).length := by unfold pairsB; rw [List.length_zip]; omega
  have : (pairsB n)[j] = (q, nameB n q) := by simp [pairsB, e1, e2]
  rw [← this]; exact List.getElem_mem hj3
 have hmem2 : (q, nameB n q) ∈ pairsB (withB n s a) := by
  rw [pairs_with ok hs]
  rw [← List.take_append_drop (lowB n.names s) (pairsB n)] at hmem
  rcases List.mem_append.1 hmem with h | h
  · exact List.mem_append.2 (.inl h)
  · exact List.mem_append.2 (.inr (List.mem_cons_of_mem _ h))
 obtain ⟨i, hi, e⟩ := List.mem_iff_getElem.1 hmem2
 have hl := okw.len
 have hi2 : i < (withB n s a).names.length := by unfold pairsB at hi; rw [List.length_zip] at hi; omega
 have := nameB_at (n := withB n s a) hk hl okw.1 hi2
 have e3 : (withB n s a).names[i] = q ∧ (withB n s a).inos[i]'(by omega) = nameB n q := by
  have : (pairsB (withB n s a))[i] = ((withB n s a).names[i], (withB n s a).inos[i]'(by omega)) := by simp [pairsB]
  rw [this] at e
  injection e with h1 h2
  exact ⟨h1, h2⟩
 rw [e3.1, e3.2] at this
 exact this
theorem walk_alike {t x : TreeB} (ht : Fair t) (hx : Fair x) (bad : Int)
 (h : ∀ k, k < t.nodes.length → (nodeAt t k).ino ≠ bad → ∃ k2, k2 < x.nodes.length ∧ (nodeAt x k2).ino = (nodeAt t k).ino ∧ (nodeAt x k2).kind = (nodeAt t k).kind ∧ ∀ q, nameB (nodeAt t k) q ≠ 0 → nameB (nodeAt t k) q ≠ bad → nameB (nodeAt x k2) q = nameB (nodeAt t k) q)
 (hbad : ∀ k, k < t.nodes.length → (nodeAt t k).ino = bad → ∀ q, nameB (nodeAt t k) q = 0) :
 ∀ (l : List ByteArray) (k k2 p : Nat), k < t.nodes.length → k2 < x.nodes.length → (nodeAt x k2).ino = (nodeAt t k).ino → (nodeAt t k).ino ≠ bad → walkB t k l = .ok p → (nodeAt t p).ino ≠ bad → ∃ p2, walkB x k2 l = .ok p2 ∧ p2 < x.nodes.length ∧ (nodeAt x p2).ino = (nodeAt t p).ino
 | [], k, k2, p, hk, hk2, e, hb, hw, hp => by
   rw [walkB] at hw
   injection hw with hw
   subst hw
   exact ⟨k2, rfl, hk2, e⟩
 | s :: r, k, k2, p, hk, hk2, e, hb, hw, hp => by
   rw [walkB] at hw
   split at hw
   · cases hw
   · rename_i hkd
     split at hw
     · cases hw
     · rename_i hn
       obtain ⟨k', p1, p2, p3, p4⟩ := ht.step hk hn
       rw [p1] at hw
       simp only [Option.getD_some] at hw
       have hnb : nameB (nodeAt t k) s ≠ bad := fun e2 => by
        rw [← p3] at e2
        -- the walk goes on from a node without names, or ends there
        cases r with
        | nil =>
          rw [walkB] at hw
          injection hw with hw
          subst hw
          exact hp e2
        | cons s2 r2 =>
          rw [walkB] at hw
          split at hw
          · cases hw
          · rw [if_pos (hbad k' p2 e2 s2)] at hw
            cases hw
       obtain ⟨m2, q1, q2, q3, q4⟩ := h k hk hb
       have em : m2 = k2 := rises_inj hx.rise q1 hk2 (q2.trans e.symm)
       subst em
       have q5 := q4 s hn hnb
       obtain ⟨x', r1, r2', r3, _⟩ := hx.step hk2 (s := s) (by rw [q5]; exact hn)
       have hb2 : (nodeAt t k').ino ≠ bad := by rw [p3]; exact hnb
       obtain ⟨pp, t1, t2, t3⟩ := walk_alike ht hx bad h hbad r k' x' p p2 r2' (by rw [r3, p3, q5]) hb2 hw hp
       refine ⟨pp, ?_, t2, t3⟩
       rw [walkB, if_neg (by rw [q3]; exact hkd), if_neg (by rw [q5]; exact hn), r1]
       exact t1
end Go.Proofs.YtbebgobboccjcaaGreatDoor
namespace Go.Proofs.YtbebgobboccjcaaGreatDoor
open Go.RowKit Kit
set_option linter.unusedVariables false

def atI (i : Int) (g : NodeB → NodeB) (n : NodeB) : NodeB := if n.ino = i then g n else n
theorem atI_ino {i : Int} {g : NodeB → NodeB} (hg : ∀ n, (g n).ino = n.ino) (n : NodeB) : (atI i g n).ino = n.ino := by
 unfold atI
 split
 · exact hg n
 · rfl
theorem set_map_list (g : NodeB → NodeB) : ∀ (l : List NodeB) (d : Nat) (hd : d < l.length), l.Pairwise (fun a b => a.ino < b.ino) → l.set d (g l[d]) = l.map (atI l[d].ino g)
 | a :: r, 0, _, h => by
   obtain ⟨h1, h2⟩ := List.pairwise_cons.1 h
   simp only [List.getElem_cons_zero, List.set_cons_zero, List.map_cons]
   have e1 : atI a.ino g a = g a := by unfold atI; rw [if_pos rfl]
   have e2 : r.map (atI a.ino g) = r := by
    rw [List.map_congr_left (g := id) (fun n hn => by
     have := h1 n hn
     unfold atI
     rw [if_neg (by omega)]; rfl), List.map_id]
   rw [e1, e2]
 | a :: r, d + 1, hd, h => by
   obtain ⟨h1, h2⟩ := List.pairwise_cons.1 h
   have hd2 : d < r.length := by simpa using hd
   have := h1 r[d] (List.getElem_mem hd2)
   simp only [List.getElem_cons_succ, List.set_cons_succ, List.map_cons]
   have e1 : atI r[d].ino g a = a := by unfold atI; rw [if_neg (by omega)]
   rw [e1, set_map_list g r d hd2 h2]
theorem set_map {t : TreeB} (h : Rises t) {d : Nat} (hd : d < t.nodes.length) (g : NodeB → NodeB) : setB t d (g (nodeAt t d)) = ⟨t.nodes.map (atI (nodeAt t d).ino g), t.next⟩ := by
 have := set_map_list g t.nodes d hd h
 rw [nodeAt_eq t d hd]
 unfold setB
 rw [this]
theorem filter_map_ino {l : List NodeB} {f : NodeB → NodeB} (hf : ∀ n, (f n).ino = n.ino) (keep : Int → Bool) : (l.map f).filter (fun n => keep n.ino) = (l.filter (fun n => keep n.ino)).map f := by
 rw [List.filter_map]
 congr 1
 apply List.filter_congr
 intro n _
 simp only [Function.comp]
 rw [hf n]
theorem with_ino (s : ByteArray) (i : Int) : ∀ n, (withB n s i).ino = n.ino := fun _ => rfl
theorem without_ino (s : ByteArray) : ∀ n, (withoutB n s).ino = n.ino := fun _ => rfl
theorem pairs_filter (n : NodeB) (s : ByteArray) : pairsB (withoutB n s) = (pairsB n).filter fun p => decide (p.1 ≠ s) := by
 have : ∀ l : List (ByteArray × Int), (l.map Prod.fst).zip (l.map Prod.snd) = l := fun l => by
  induction l with
  | nil => rfl
  | cons a r ih => simp only [List.map_cons, List.zip_cons_cons, ih]
 unfold withoutB
 rw [pairsB]
 simp only
 rw [this]
theorem pairs_rise {n : NodeB} (ok : NodeOK n) : (pairsB n).Pairwise fun a b => less a.1 b.1 := by
 have e : (pairsB n).map Prod.fst = n.names := List.map_fst_zip (by have := ok.len; omega)
 have := ok.1
 unfold Rising at this
 rw [← e, List.pairwise_map] at this
 exact this
theorem with_without {m : NodeB} (ok : NodeOK m) (hk : m.kind = 2) {s old : ByteArray} (hs : s ∉ m.names) (ho : okB s = true ∧ s.size ≤ 12) (hold : old ∈ m.names) (i : Int) : withoutB (withB m s i) old = withB (withoutB m old) s i := by
 have hne : s ≠ old := fun e => hs (e ▸ hold)
 have ok1 := with_ok ok hk hs ho i
 have ok2 := without_ok ok hk old
 have hs2 : s ∉ (withoutB m old).names := by
  rw [show (withoutB m old).names = m.names.filter (fun q => decide (q ≠ old)) from names_without_keep m.names m.inos old ok.len]
  intro h
  exact hs (List.mem_filter.1 h).1
 have okA := without_ok ok1 hk old
 have okB2 := with_ok ok2 hk hs2 ho i
 -- both hold the same names with the same numbers
 have hA : (pairsB (withoutB (withB m s i) old)).Perm (pairsB (withB (withoutB m old) s i)) := by
  have e1 : pairsB (withoutB (withB m s i) old) = (pairsB (withB m s i)).filter fun p => decide (p.1 ≠ old) := pairs_filter _ _
  have e2 : pairsB (withoutB m old) = (pairsB m).filter fun p => decide (p.1 ≠ old) := pairs_filter _ _
  rw [e1, pairs_with ok hs, pairs_with ok2 hs2, e2, List.filter_append, List.filter_cons, if_pos (decide_eq_true hne)]
  refine List.perm_middle.trans (List.Perm.trans ?_ List.perm_middle.symm)
  apply List.Perm.cons
  rw [← List.filter_append, List.take_append_drop, List.take_append_drop]
 have hp : pairsB (withoutB (withB m s i) old) = pairsB (withB (withoutB m old) s i) := by
  refine hA.eq_of_pairwise (le := fun a b => less a.1 b.1) ?_ ?_ ?_
  · intro a b _ _ h1 h2
    exact absurd (less_trans h1 h2) (less_irrefl _)
  · exact pairs_rise okA
  · exact pairs_rise okB2
 have l1 := okA.len
 have l2 := okB2.len
 have n1 : (withoutB (withB m s i) old).names = (withB (withoutB m old) s i).names := by
  rw [← List.map_fst_zip (l₁ := (withoutB (withB m s i) old).names) (l₂ := (withoutB (withB m s i) old).inos) (by omega), ← List.map_fst_zip (l₁ := (withB (withoutB m old) s i).names) (l₂ := (withB (withoutB m old) s i).inos) (by omega)]
  exact congrArg (List.map Prod.fst) hp
 have n2 : (withoutB (withB m s i) old).inos = (withB (withoutB m old) s i).inos := by
  rw [← List.map_snd_zip (l₁ := (withoutB (withB m s i) old).names) (l₂ := (withoutB (withB m s i) old).inos) (by omega), ← List.map_snd_zip (l₁ := (withB (withoutB m old) s i).names) (l₂ := (withB (withoutB m old) s i).inos) (by omega)]
  exact congrArg (List.map Prod.snd) hp
 have : ∀ a b : NodeB, a.ino = b.ino → a.kind = b.kind → a.data = b.data → a.names = b.names → a.inos = b.inos → a = b := by
  intro a b h1 h2 h3 h4 h5
  cases a; cases b
  simp only at h1 h2 h3 h4 h5
  subst h1 h2 h3 h4 h5
  rfl
 exact this _ _ rfl rfl rfl n1 n2
theorem fair_filter {x : TreeB} (h : Fair x) (keep : Int → Bool) (h1 : keep 1 = true) (h2 : ∀ n ∈ x.nodes, ∀ i ∈ n.inos, keep i = true) : Fair ⟨x.nodes.filter (fun n => keep n.ino), x.next⟩ := by
 obtain ⟨r, l, e, e1, e2⟩ := h.root
 refine ⟨⟨r, l.filter (fun n => keep n.ino), ?_, e1, e2⟩, Nat.le_trans (List.length_filter_le _ _) h.size, h.next, h.rise.filter _, fun n hn => h.below n (List.mem_filter.1 hn).1, fun n hn => h.each n (List.mem_filter.1 hn).1, fun n hn i hi => ?_, fun n hn => h.names n (List.mem_filter.1 hn).1⟩
 · simp only
   rw [e, List.filter_cons, if_pos (by rw [e1]; exact h1)]
 · have hn2 := (List.mem_filter.1 hn).1
   obtain ⟨k1, m, hm, k2⟩ := h.leads n hn2 i hi
   exact ⟨k1, m, List.mem_filter.2 ⟨hm, by rw [k2]; exact h2 n hn2 i hi⟩, k2⟩
theorem fair_with {t : TreeB} (h : Fair t) {d : Nat} (hd : d < t.nodes.length) (hk : (nodeAt t d).kind = 2) {s : ByteArray} (hs : s ∉ (nodeAt t d).names) (ho : okB s = true ∧ s.size ≤ 12) {i : Int} (hi : i ≠ 1 ∧ ∃ m ∈ t.nodes, m.ino = i) (hn : (nodeAt t d).names.length < 10000) : Fair (setB t d (withB (nodeAt t d) s i)) := by
 have ok := h.each _ (nodeAt_mem hd)
 refine fair_set h hd rfl rfl (with_ok ok hk hs ho i) (fun j hj => ?_) ?_
 · rcases with_sub hj with e | e
   · subst e; exact hi
   · exact h.leads _ (nodeAt_mem hd) j e
 · unfold withB
   simp only [List.length_append, List.length_cons, List.length_take, List.length_drop]
   omega
theorem place_of {x : TreeB} (h : Rises x) {n : NodeB} (hn : n ∈ x.nodes) : ∃ k, k < x.nodes.length ∧ nodeAt x k = n := by
 obtain ⟨k, hk, e⟩ := List.mem_iff_getElem.1 hn
 exact ⟨k, hk, by rw [nodeAt_eq x k hk]; exact e⟩
end Go.Proofs.YtbebgobboccjcaaGreatDoor
namespace Go.Proofs.YtbebgobboccjcaaGreatDoor
open Go.RowKit Kit
set_option linter.unusedVariables false

theorem kids_with {t : TreeB} {d : Nat} (hd : d < t.nodes.length) (s : ByteArray) (i j : Int) : kidsB (setB t d (withB (nodeAt t d) s i)) j = kidsB t j + if i = j then 1 else 0 := by
 have h1 := kids_set t d (withB (nodeAt t d) s i) hd j
 rw [count_with] at h1
 omega
theorem ren_core {X : TreeB} (hX : Fair X) {p0 d : Nat} (hp : p0 < X.nodes.length) (hd : d < X.nodes.length) (hpk : (nodeAt X p0).kind = 2) (hdk : (nodeAt X d).kind = 2) {s old : ByteArray} {I : Int} (hs : s ∉ (nodeAt X d).names) (ho : okB s = true ∧ s.size ≤ 12)
 (hI : nameB (nodeAt X p0) old = I) (hI0 : I ≠ 0) (hnl : (nodeAt X d).names.length < 10000) (keep : Int → Bool) (hkeep : ∀ n ∈ X.nodes, keep n.ino = decide (0 < linksD X n.ino))
 {x1 x2 : TreeB} (hx1 : x1 = ⟨X.nodes.filter (fun n => keep n.ino), X.next⟩) (hf1 : Fair x1) {d1 : Nat} (hd1 : d1 < x1.nodes.length) (hde : nodeAt x1 d1 = nodeAt X d)
 (hx2 : x2 = setB x1 d1 (withB (nodeAt x1 d1) s I)) (hf2 : Fair x2) {p2 : Nat} (hp2 : p2 < x2.nodes.length) (hpe : (nodeAt x2 p2).ino = (nodeAt X p0).ino) :
 old ∈ (nodeAt x2 p2).names ∧ unnameB x2 p2 old = sweptB (movedB X p0 old d s I) := by
 have okp := hX.each _ (nodeAt_mem hp)
 have okd := hX.each _ (nodeAt_mem hd)
 have holdm : old ∈ (nodeAt X p0).names := has_iff.1 ((has_name okp (hX.nz (nodeAt_mem hp)) old).2 (by rw [hI]; exact hI0))
 obtain ⟨kI, i1, i2, i3, i4⟩ := hX.step hp (s := old) (by rw [hI]; exact hI0)
 rw [hI] at i3 i4
 -- the maps
 obtain ⟨D, hD⟩ : ∃ D, (nodeAt X d).ino = D := ⟨_, rfl⟩
 obtain ⟨P, hP⟩ : ∃ P, (nodeAt X p0).ino = P := ⟨_, rfl⟩
 have hx2n : x2 = ⟨x1.nodes.map (atI D fun n => withB n s I), x1.next⟩ := by
  rw [hx2, set_map hf1.rise hd1 (fun n => withB n s I), hde, hD]
 have hsub : ∀ n ∈ x1.nodes, n ∈ X.nodes := fun n hn => by rw [hx1] at hn; exact (List.mem_filter.1 hn).1
 have hdm : nodeAt X d ∈ x1.nodes := by rw [← hde]; exact nodeAt_mem hd1
 -- who stands at the old place
 have hpn : nodeAt x2 p2 = atI D (fun n => withB n s I) (nodeAt X p0) := by
  have hm := nodeAt_mem hp2
  rw [hx2n] at hm
  obtain ⟨m, hm1, hm2⟩ := List.mem_map.1 hm
  rw [← hx2n] at hm2
  have hmi : m.ino = (nodeAt X p0).ino := by rw [← hpe, ← hm2, atI_ino (with_ino s I)]
  rw [← hm2, rises_eq hX.rise (hsub m hm1) (nodeAt_mem hp) hmi]
 have hpd : P = D → p0 = d := fun e => rises_inj hX.rise hp hd (by rw [hP, hD, e])
 have hne : s ≠ old ∨ P ≠ D := by
  by_cases e : P = D
  · left
    intro e2
    have := hpd e
    subst this
    exact hs (e2 ▸ holdm)
  · exact .inr e
 have hnm2 : nameB (nodeAt x2 p2) old = I := by
  rw [hpn]
  unfold atI
  split
  · rename_i e
    have e3 : P = D := by rw [← hP]; exact e
    have e2 := hpd e3
    subst e2
    rw [with_name_ne okd hdk hs ho (fun e4 => hs (e4 ▸ holdm)) I (by rw [hI]; exact hI0), hI]
  · exact hI
 have ok2 := hf2.each _ (nodeAt_mem hp2)
 refine ⟨has_iff.1 ((has_name ok2 (hf2.nz (nodeAt_mem hp2)) old).2 (by rw [hnm2]; exact hI0)), ?_⟩
 have hx3 : setB x2 p2 (withoutB (nodeAt x2 p2) old) = ⟨x2.nodes.map (atI P fun n => withoutB n old), x2.next⟩ := by
  rw [set_map hf2.rise hp2 (fun n => withoutB n old), hpe, hP]
 -- one element
 have hcomm : ∀ n ∈ x1.nodes, atI P (fun n => withoutB n old) (atI D (fun n => withB n s I) n) = atI D (fun n => withB n s I) (atI P (fun n => withoutB n old) n) := by
  intro n hn
  unfold atI
  by_cases a : n.ino = D
  · by_cases c : n.ino = P
    · have e2 : P = D := c.symm.trans a
      have e3 := hpd e2
      have e4 : n = nodeAt X d := rises_eq hX.rise (hsub n hn) (nodeAt_mem hd) (by rw [hD]; exact a)
      simp only [if_pos a, if_pos c, with_ino, without_ino]
      subst e4
      subst e3
      exact with_without okd hdk hs ho holdm I
    · simp only [if_pos a, if_neg c, with_ino]
  · by_cases c : n.ino = P
    · simp only [if_neg a, if_pos c, without_ino]
    · simp only [if_neg a, if_neg c]
 -- the number still has a name
 have hlk : linksD (setB x2 p2 (withoutB (nodeAt x2 p2) old)) I ≠ 0 := by
  unfold linksD
  rw [if_neg i4]
  have : 0 < kidsB (setB x2 p2 (withoutB (nodeAt x2 p2) old)) I := by
   rw [kids_pos, hx3, hx2n]
   simp only
   refine ⟨_, List.mem_map.2 ⟨_, List.mem_map.2 ⟨nodeAt X d, hdm, rfl⟩, rfl⟩, ?_⟩
   rw [hcomm _ hdm]
   have e5 : (atI P (fun n => withoutB n old) (nodeAt X d)).ino = D := by rw [atI_ino (without_ino old), hD]
   unfold atI at e5 ⊢
   rw [if_pos e5]
   unfold withB
   simp
  omega
 have hleft : unnameB x2 p2 old = ⟨(x1.nodes.map (atI P fun n => withoutB n old)).map (atI D fun n => withB n s I), X.next⟩ := by
  unfold unnameB
  rw [hnm2, if_neg hlk, hx3, hx2n]
  have hnx : x1.next = X.next := by rw [hx1]
  simp only
  rw [hnx, List.map_map, List.map_map]
  congr 1
  apply List.map_congr_left
  intro n hn
  exact hcomm n hn
 -- the document's tree
 have hfX1 := fair_without hX hp hpk old
 obtain ⟨X1, hX1⟩ : ∃ z, setB X p0 (withoutB (nodeAt X p0) old) = z := ⟨_, rfl⟩
 have hX1n : X1 = ⟨X.nodes.map (atI P fun n => withoutB n old), X.next⟩ := by rw [← hX1, set_map hX.rise hp (fun n => withoutB n old), hP]
 rw [hX1] at hfX1
 have hd2 : d < X1.nodes.length := by rw [hX1n]; simpa using hd
 have hXd : nodeAt X1 d = atI P (fun n => withoutB n old) (nodeAt X d) := by
  rw [nodeAt_eq X1 d hd2, nodeAt_eq X d hd]
  simp only [hX1n, List.getElem_map]
 have hXdi : (nodeAt X1 d).ino = D := by rw [hXd, atI_ino (without_ino old), hD]
 have hXdk : (nodeAt X1 d).kind = 2 := by
  rw [hXd]
  unfold atI
  split
  · exact hdk
  · exact hdk
 have hXds : s ∉ (nodeAt X1 d).names := by
  rw [hXd]
  unfold atI
  split
  · rw [show (withoutB (nodeAt X d) old).names = (nodeAt X d).names.filter (fun q => decide (q ≠ old)) from names_without_keep _ _ old okd.len]
    exact fun h => hs (List.mem_filter.1 h).1
  · exact hs
 have hXdl : (nodeAt X1 d).names.length < 10000 := by
  rw [hXd]
  unfold atI
  split
  · exact Nat.lt_of_le_of_lt (without_len old) hnl
  · exact hnl
 have hmem : ∀ i, (∃ m ∈ X.nodes, m.ino = i) → ∃ m ∈ X1.nodes, m.ino = i := fun i ⟨m, hm, e⟩ => by
  rw [hX1n]
  exact ⟨_, List.mem_map.2 ⟨m, hm, rfl⟩, by rw [atI_ino (without_ino old)]; exact e⟩
 have hIx : ∃ m ∈ X.nodes, m.ino = I := ⟨nodeAt X kI, nodeAt_mem i2, i3⟩
 have hY : movedB X p0 old d s I = setB X1 d (withB (nodeAt X1 d) s I) := by unfold movedB; rw [hX1]
 have hfY := fair_with hfX1 hd2 hXdk hXds ho ⟨i4, hmem I hIx⟩ hXdl
 have hYn : setB X1 d (withB (nodeAt X1 d) s I) = ⟨(X.nodes.map (atI P fun n => withoutB n old)).map (atI D fun n => withB n s I), X.next⟩ := by
  rw [set_map hfX1.rise hd2 (fun n => withB n s I), hXdi, hX1n]
 have hlY : ∀ i, linksD (setB X1 d (withB (nodeAt X1 d) s I)) i = linksD X i := fun i => by
  unfold linksD
  split
  · rfl
  · rw [kids_with hd2 s I i]
    have := kids_unname hX hp (s := old) (by rw [hI]; exact hI0) i
    rw [hI, hX1] at this
    exact this
 rw [hleft, hY]
 unfold sweptB
 have hflt : (setB X1 d (withB (nodeAt X1 d) s I)).nodes.filter (fun n => decide (0 < linksB (setB X1 d (withB (nodeAt X1 d) s I)) n.ino)) = (setB X1 d (withB (nodeAt X1 d) s I)).nodes.filter (fun n => keep n.ino) := by
  apply List.filter_congr
  intro n hn
  rw [hfY.links hn, hlY]
  rw [hYn] at hn
  obtain ⟨m1, hm1, e1⟩ := List.mem_map.1 hn
  obtain ⟨m2, hm2, e2⟩ := List.mem_map.1 hm1
  have : n.ino = m2.ino := by rw [← e1, atI_ino (with_ino s I), ← e2, atI_ino (without_ino old)]
  rw [this, hkeep m2 hm2]
 rw [hflt, hYn]
 simp only
 rw [filter_map_ino (atI_ino (with_ino s I)) keep, filter_map_ino (atI_ino (without_ino old)) keep]
 have : x1.nodes = X.nodes.filter (fun n => keep n.ino) := by rw [hx1]
 rw [this]
end Go.Proofs.YtbebgobboccjcaaGreatDoor
namespace Go.Proofs.YtbebgobboccjcaaGreatDoor
open Go.RowKit Kit
set_option linter.unusedVariables false

theorem home_walk {y : TreeB} (hy : Fair y) {path : ByteArray} {l : List ByteArray} {old : ByteArray} (hp : (parentB path).2.2 = 0) (hl : (splitB path).1 = l ++ [old]) {p2 : Nat} (hw : walkB y 0 l = .ok p2) (hk : (nodeAt y p2).kind = 2) : homeB y path = .ok (p2, old) := by
 obtain ⟨_, l', s', h1, h2, h3, _⟩ := parent_ok hp
 have e := hl.symm.trans h1
 obtain ⟨e1, e2⟩ := List.append_inj' e rfl
 injection e2 with e2 _
 subst e1 e2
 unfold homeB
 rw [if_neg (by simp [hp])]
 have hf : findB y (parentB path).1 = .ok p2 := by
  rw [h2]
  unfold findB
  simp only
  rw [h3, hy.rootP]
  simp only [ne_eq, not_true_eq_false, if_false]
  exact hw
 rw [hf]
 simp only
 rw [if_neg (by omega), h2]
theorem ren_any {t X : TreeB} (hG : Good t) {p0 d k : Nat} (hp : p0 < t.nodes.length) (hd : d < t.nodes.length) (hpk : (nodeAt t p0).kind = 2) (hdk : (nodeAt t d).kind = 2) {path s old : ByteArray} {l : List ByteArray}
 (hpar : (parentB path).2.2 = 0) (hl : (splitB path).1 = l ++ [old]) (hw : walkB t 0 l = .ok p0) {I T : Int} (hI : nameB (nodeAt t p0) old = I) (hI0 : I ≠ 0) (ho : okB s = true ∧ s.size ≤ 12)
 (hTs : nameB (nodeAt t d) s = T) (hIT : I ≠ T) (hT1 : T ≠ 1) (hTn : ∀ n ∈ t.nodes, n.ino = T → ∀ q, nameB n q = 0) (f : NodeB → NodeB) (hfi : ∀ n, (f n).ino = n.ino) (hfk : ∀ n, (f n).kind = n.kind)
 (hfn : ∀ q, q ≠ s → nameB (nodeAt t d) q ≠ 0 → nameB (f (nodeAt t d)) q = nameB (nodeAt t d) q) (hfs : s ∉ (f (nodeAt t d)).names) (hfl : (f (nodeAt t d)).names.length < 10000)
 (hX : X = setB t d (f (nodeAt t d))) (hfX : Fair X) (hkids : ∀ i, i ≠ T → kidsB X i = kidsB t i) :
 ∃ x1 d1 p2, sweptB X = x1 ∧ Fair x1 ∧ d1 < x1.nodes.length ∧ (nodeAt x1 d1).ino = (nodeAt t d).ino ∧ (nodeAt x1 d1).kind = 2 ∧ s ∉ (nodeAt x1 d1).names ∧ Fair (setB x1 d1 (withB (nodeAt x1 d1) s I)) ∧
  homeB (setB x1 d1 (withB (nodeAt x1 d1) s I)) path = .ok (p2, old) ∧ old ∈ (nodeAt (setB x1 d1 (withB (nodeAt x1 d1) s I)) p2).names ∧ unnameB (setB x1 d1 (withB (nodeAt x1 d1) s I)) p2 old = sweptB (movedB X p0 old d s I) := by
 have hg := hG.e
 have ht := hg.fair
 obtain ⟨D, hD⟩ : ∃ D, (nodeAt t d).ino = D := ⟨_, rfl⟩
 have hXn : X = ⟨t.nodes.map (atI D f), t.next⟩ := by rw [hX, set_map ht.rise hd f, hD]
 have hlen : X.nodes.length = t.nodes.length := by rw [hXn]; simp
 have hXat : ∀ j, j < t.nodes.length → nodeAt X j = atI D f (nodeAt t j) := fun j hj => by
  rw [nodeAt_eq X j (by omega), nodeAt_eq t j hj]
  simp only [hXn, List.getElem_map]
 have hXd : nodeAt X d = f (nodeAt t d) := by rw [hXat d hd]; unfold atI; rw [if_pos hD]
 have hPT : (nodeAt t p0).ino ≠ T := fun e => by have := hTn _ (nodeAt_mem hp) e old; rw [hI] at this; exact hI0 this
 have hosne : p0 = d → old ≠ s := fun e e2 => by subst e; subst e2; exact hIT (hI.symm.trans hTs)
 have hXp : nameB (nodeAt X p0) old = I := by
  rw [hXat p0 hp]
  unfold atI
  split
  · rename_i e
    have e2 : p0 = d := rises_inj ht.rise hp hd (by rw [e, hD])
    subst e2
    rw [hfn old (hosne rfl) (by rw [hI]; exact hI0), hI]
  · exact hI
 obtain ⟨kI, i1, i2, i3, i4⟩ := ht.step hp (s := old) (by rw [hI]; exact hI0)
 rw [hI] at i3 i4
 -- who stays
 have hkeep1 : ∀ n ∈ t.nodes, n.ino ≠ T → 0 < linksD X n.ino := fun n hn hne => by
  unfold linksD
  split
  · omega
  · rename_i h1
    rw [hkids _ hne]
    exact hG.2 n hn h1
 have hDT : D ≠ T ∨ D = 1 := by
  by_cases e : D = T
  · right
    apply Classical.byContradiction
    intro h1
    -- a directory that is T has no name s, so T is 0
    have h2 := hTn _ (nodeAt_mem hd) (by rw [hD]; exact e) s
    rw [hTs] at h2
    have h3 := ht.pos _ (nodeAt_mem hd)
    rw [hD, e, h2] at h3
    omega
  · exact .inl e
 have hDk : 0 < linksD X D := by
  rcases hDT with h | h
  · have := hkeep1 _ (nodeAt_mem hd) (by rw [hD]; exact h)
    rw [hD] at this
    exact this
  · rw [h]; unfold linksD; rw [if_pos rfl]; omega
 obtain ⟨x1, hx1⟩ : ∃ x1, sweptB X = x1 := ⟨_, rfl⟩
 have hx1n : x1 = ⟨X.nodes.filter (fun n => decide (0 < linksD X n.ino)), X.next⟩ := by
  rw [← hx1]
  unfold sweptB
  congr 1
  apply List.filter_congr
  intro n hn
  rw [hfX.links hn]
 have hf1 : Fair x1 := by
  rw [hx1n]
  refine fair_filter hfX (fun i => decide (0 < linksD X i)) (by unfold linksD; simp) (fun n hn i hi => ?_)
  apply decide_eq_true
  unfold linksD
  split
  · omega
  · exact kids_pos.2 ⟨n, hn, hi⟩
 have hdm : nodeAt X d ∈ x1.nodes := by
  rw [hx1n]
  refine List.mem_filter.2 ⟨nodeAt_mem (by omega), decide_eq_true ?_⟩
  rw [hXd, hfi, hD]; exact hDk
 obtain ⟨d1, hd1, hde⟩ := place_of hf1.rise hdm
 have hd1i : (nodeAt x1 d1).ino = D := by rw [hde, hXd, hfi, hD]
 have hd1k : (nodeAt x1 d1).kind = 2 := by rw [hde, hXd, hfk]; exact hdk
 have hd1s : s ∉ (nodeAt x1 d1).names := by rw [hde, hXd]; exact hfs
 have hd1l : (nodeAt x1 d1).names.length < 10000 := by rw [hde, hXd]; exact hfl
 have hin1 : ∀ n ∈ t.nodes, n.ino ≠ T → atI D f n ∈ x1.nodes := fun n hn hne => by
  rw [hx1n]
  refine List.mem_filter.2 ⟨by rw [hXn]; exact List.mem_map.2 ⟨n, hn, rfl⟩, decide_eq_true ?_⟩
  rw [atI_ino hfi]; exact hkeep1 n hn hne
 have hI1 : ∃ m ∈ x1.nodes, m.ino = I := ⟨_, hin1 _ (nodeAt_mem i2) (by rw [i3]; exact hIT), by rw [atI_ino hfi]; exact i3⟩
 have hf2 := fair_with hf1 hd1 hd1k hd1s ho ⟨i4, hI1⟩ hd1l
 obtain ⟨x2, hx2⟩ : ∃ x2, setB x1 d1 (withB (nodeAt x1 d1) s I) = x2 := ⟨_, rfl⟩
 rw [hx2] at hf2
 have hx2n : x2 = ⟨x1.nodes.map (atI D fun n => withB n s I), x1.next⟩ := by
  rw [← hx2, set_map hf1.rise hd1 (fun n => withB n s I), hd1i]
 -- the way to the old place is the same
 have hsame : ∀ j, j < t.nodes.length → (nodeAt t j).ino ≠ T → ∃ k2, k2 < x2.nodes.length ∧ (nodeAt x2 k2).ino = (nodeAt t j).ino ∧ (nodeAt x2 k2).kind = (nodeAt t j).kind ∧ ∀ q, nameB (nodeAt t j) q ≠ 0 → nameB (nodeAt t j) q ≠ T → nameB (nodeAt x2 k2) q = nameB (nodeAt t j) q := fun j hj hne => by
  have hm1 := hin1 _ (nodeAt_mem hj) hne
  have hm2 : atI D (fun n => withB n s I) (atI D f (nodeAt t j)) ∈ x2.nodes := by rw [hx2n]; exact List.mem_map.2 ⟨_, hm1, rfl⟩
  obtain ⟨k2, hk2, e⟩ := place_of hf2.rise hm2
  refine ⟨k2, hk2, by rw [e, atI_ino (with_ino s I), atI_ino hfi], ?_, fun q hq0 hqT => ?_⟩
  · rw [e]
    unfold atI
    by_cases a : (nodeAt t j).ino = D
    · simp only [if_pos a, hfi]
      exact hfk _
    · simp only [if_neg a]
  · rw [e]
    unfold atI
    by_cases a : (nodeAt t j).ino = D
    · have e2 : j = d := rises_inj ht.rise hj hd (by rw [a, hD])
      subst e2
      simp only [if_pos a, hfi]
      have hqs : q ≠ s := fun e3 => by subst e3; exact hqT hTs
      have h1 := hfn q hqs hq0
      have okf : NodeOK (f (nodeAt t j)) := by rw [← hXd]; exact hfX.each _ (nodeAt_mem (by omega))
      rw [with_name_ne okf (by rw [hfk]; exact hdk) hfs ho hqs I (by rw [h1]; exact hq0), h1]
    · simp only [if_neg a]
 have hr := ht.root0
 have hr2 := hf2.root0
 obtain ⟨p2, w1, w2, w3⟩ := walk_alike ht hf2 T hsame (fun j hj e q => hTn _ (nodeAt_mem hj) e q) l 0 0 p0 hr.1 hr2.1 (by rw [hr.2.1, hr2.2.1]) (by rw [hr.2.1]; exact fun e => hT1 e.symm) hw hPT
 have hXpi : (nodeAt X p0).ino = (nodeAt t p0).ino := by rw [hXat p0 hp, atI_ino hfi]
 have hXpk : (nodeAt X p0).kind = 2 := by
  rw [hXat p0 hp]
  unfold atI
  split
  · rw [hfk]; exact hpk
  · exact hpk
 have core := ren_core hfX (p0 := p0) (d := d) (by omega) (by omega) hXpk (by rw [hXd, hfk]; exact hdk) (s := s) (old := old) (I := I) (by rw [hXd]; exact hfs) ho hXp hI0 (by rw [hXd]; exact hfl) (fun i => decide (0 < linksD X i)) (fun n _ => rfl) hx1n hf1 hd1 hde hx2.symm hf2 w2 (by rw [w3, hXpi])
 have hp2k : (nodeAt x2 p2).kind = 2 := by
  obtain ⟨k2, q1, q2, q3, _⟩ := hsame p0 hp hPT
  have : k2 = p2 := rises_inj hf2.rise q1 w2 (q2.trans w3.symm)
  rw [← this, q3]; exact hpk
 refine ⟨x1, d1, p2, hx1, hf1, hd1, hd1i.trans hD.symm, hd1k, hd1s, ?_, ?_, ?_, ?_⟩
 · rw [hx2]; exact hf2
 · rw [hx2]; exact home_walk hf2 hpar hl w1 hp2k
 · rw [hx2]; exact core.1
 · rw [hx2]; exact core.2
end Go.Proofs.YtbebgobboccjcaaGreatDoor
namespace Go.Proofs.YtbebgobboccjcaaGreatDoor
open Go.RowKit Kit
set_option linter.unusedVariables false

set_option maxRecDepth 4000 in
set_option maxHeartbeats 2000000 in
theorem ints_same (x y : Value) (l : List Int) (w : World) (hx : Sees w x (intsV .i64 l)) (hy : Sees w y (intsV .i64 l)) :
 Calls Tryz.prog 27 #[x, y] w fun e w' => e = .returned (.bool true) ∧ Below w.heap.size w w' := by
 obtain ⟨ao, cap, rfl, h1, h2, h3, h4⟩ := hx
 obtain ⟨bo, cap', rfl, g1, g2, g3, g4⟩ := hy
 simp only [intsV_len] at *
 have hm : (l.length : Int) ≤ 9223372036854775807 := by unfold maxLen at h2; omega
 have H4 : Hid (_ → _) := h4
 have G4 : Hid (_ → _) := g4
 clear h1 h2 h3 g1 g2 g3 h4 g4
 go_enter Tryz.func27, Tryz.ntmps27
 go_wp2
 go_loopw [5] (fun i wr => ∃ k : Nat, k ≤ l.length ∧ i = .int .i64 (k : Int) ∧ Hid (Below w.heap.size w wr)) (fun i _ => l.length - (intOf i).toNat)
 case atStart => exact ⟨0, Nat.zero_le _, rfl, Below.refl _ _⟩
 case round =>
  obtain ⟨k, hk, rfl, HB⟩ := hrel
  by_cases hlt : k < l.length
  · obtain ⟨b, off, rfl, hbl, hc⟩ := H4.out (by omega)
    obtain ⟨b', off', rfl, hbl', hc'⟩ := G4.out (by omega)
    have c0 := (HB.out.cell (by exact hbl)).trans (hc k _ (intsV_at .i64 l k hlt))
    have c1 := (HB.out.cell (by exact hbl')).trans (hc' k _ (intsV_at .i64 l k hlt))
    have i0 : (k : Int) < (l.length : Int) := by omega
    have i2 : (0 : Int) ≤ (k : Int) := by omega
    clear hc hc' hbl hbl'
    go_wp2
    go_region
    go_wp2
    go_roundw
    case rel => exact ⟨k + 1, by omega, by simp, HB.out.drew⟩
    case measure => simp [intOf]; omega
  · have i0 : ¬ (k : Int) < (l.length : Int) := by omega
    go_wp2
    go_ret
    exact ⟨rfl, HB.out⟩
set_option maxRecDepth 4000 in
theorem treads_any (k : Int) (w : World) : Calls Tryz.prog 20 #[.int .i64 k] w fun e w' => e = .returned (.bool (readsB k)) ∧ w' = w := by
 unfold readsB
 by_cases h7 : k = 7
 · subst h7
   go_enter Tryz.func20, Tryz.ntmps20
   go_wp2
   go_ret
   exact ⟨rfl, rfl⟩
 have b7 : (k == 7) = false := beq_eq_false_iff_ne.2 h7
 by_cases h10 : k = 10
 · subst h10
   go_enter Tryz.func20, Tryz.ntmps20
   go_wp2
   go_ret
   exact ⟨rfl, rfl⟩
 have b10 : (k == 10) = false := beq_eq_false_iff_ne.2 h10
 rw [b7, b10]
 clear h7 h10
 go_enter Tryz.func20, Tryz.ntmps20
 go_wp2
 go_ret
 exact ⟨by first | rfl | simp, rfl⟩
theorem bel_newT (w : World) (o : Obj) : Below w.heap.size w (w.alloc o) := (Below.refl _ _).alloc (Nat.le_refl _) _
theorem str_same (a : ByteArray) : (a.toList == a.toList) = true := beq_self_eq_true _
theorem sees_vwT {w : World} {v : Value} {k : IntKind} {zs : List Int} (h : Sees w v (intsV k zs)) : Vw w.heap.size w k v zs := by
 obtain ⟨ao, cap, h1, h2, h3, h4, h5⟩ := h
 rw [intsV_len] at h1 h2 h5
 rcases Nat.eq_zero_or_pos zs.length with h0 | h0
 · have : zs = [] := List.length_eq_zero_iff.1 h0
   subst this
   exact .inl ⟨rfl, ao, cap, h1, h4, h3⟩
 · obtain ⟨b, off, e, hb, hh⟩ := h5 h0
   subst e
   refine .inr ⟨h0, b, off, cap, h1, h2, h3, hb, fun i hi => hh i _ ?_⟩
   unfold intsV
   rw [List.getElem?_map, List.getElem?_eq_getElem hi, List.getD_eq_getElem?_getD, List.getElem?_eq_getElem hi]
   rfl
def SmKeep (w wr : World) (a b : Value) (nx : Value) : Prop := wr.heap[w.heap.size]? = some (.cells #[a, nx] 29) ∧ wr.heap[w.heap.size + 1]? = some (.cells #[b, nx] 29) ∧ Below w.heap.size w wr
theorem cell_oldT {w w' : World} {a : Addr} {v : Value} (hb : Below w.heap.size w w') (h : w.cell? a = some v) : w'.cell? a = some v := (hb.cell (cell_lt h)).trans h
theorem SmKeep.below {w wr w' : World} {a b nx : Value} (h : SmKeep w wr a b nx) (hb : Below wr.heap.size wr w') : SmKeep w w' a b nx := ⟨(hb.block _ (Array.getElem?_eq_some_iff.1 h.1).1).trans h.1, (hb.block _ (Array.getElem?_eq_some_iff.1 h.2.1).1).trans h.2.1, h.2.2.trans (hb.mono h.2.2.size)⟩
theorem SmKeep.below2 {w wr : World} {a b nx : Value} (h : SmKeep w wr a b nx) (o o2 : Obj) : SmKeep w ((wr.alloc o).alloc o2) a b nx := (h.below (bel_newT _ o)).below (bel_newT _ o2)
theorem nodeAt_memT {t : TreeB} {k : Nat} (hk : k < t.nodes.length) : nodeAt t k ∈ t.nodes := by
 unfold nodeAt
 rw [List.getD_eq_getElem?_getD, List.getElem?_eq_getElem hk]
 exact List.getElem_mem hk
set_option maxRecDepth 4000 in
set_option maxHeartbeats 8000000 in
theorem tsame_any (va vb : Value) (t : TreeB) (w : World) (ha : TreeAt w va t) (hb : TreeAt w vb t) (hk : ∀ n ∈ t.nodes, n.kind = 1 ∨ n.kind = 2) (hl : t.nodes.length ≤ 60) : Calls Tryz.prog 12 #[va, vb] w fun e w' => e = .returned (.bool true) ∧ Below w.heap.size w w' := by
 obtain ⟨ao, cap, fs, rfl, q1, q2, q3, q4, q5⟩ := ha.opened
 obtain ⟨bo, cap2, gs, rfl, p1, p2, p3, p4, p5⟩ := hb.opened
 have hfl := fs_len q3
 have hgl := fs_len p3
 have HF : Hid (fs.map FN.n = t.nodes ∧ (∀ f ∈ fs, f.is w) ∧ gs.map FN.n = t.nodes ∧ (∀ f ∈ gs, f.is w) ∧ fs.length = t.nodes.length ∧ gs.length = t.nodes.length) := ⟨q3, q4, p3, p4, hfl, hgl⟩
 have HQ5 : Hid (_ → _) := q5
 have HP5 : Hid (_ → _) := p5
 have HKd : Hid (∀ n ∈ t.nodes, n.kind = 1 ∨ n.kind = 2) := hk
 have lm : (t.nodes.length : Int) ≤ 60 := by omega
 obtain ⟨W, hW⟩ : ∃ z, z = (w.alloc (.cells #[.slice ao t.nodes.length cap, .int .i64 t.next] 29)).alloc (.cells #[.slice bo t.nodes.length cap2, .int .i64 t.next] 29) := ⟨_, rfl⟩
 have HW : Hid (SmKeep w W (.slice ao t.nodes.length cap) (.slice bo t.nodes.length cap2) (.int .i64 t.next)) := by
  refine ⟨?_, ?_, ?_⟩
  · rw [hW]; exact ((bel_newT _ _).block _ (by simp)).trans (MapKept.heap_alloc w _).1
  · rw [hW]
    have h1 := (MapKept.heap_alloc (w.alloc (.cells #[.slice ao t.nodes.length cap, .int .i64 t.next] 29)) (.cells #[.slice bo t.nodes.length cap2, .int .i64 t.next] 29)).1
    have h2 : (w.alloc (.cells #[.slice ao t.nodes.length cap, .int .i64 t.next] 29)).heap.size = w.heap.size + 1 := by simp
    rw [h2] at h1
    exact h1
  · rw [hW]; exact ((Below.refl _ _).alloc (Nat.le_refl _) _).alloc (by simp) _
 clear q1 q2 q3 q4 q5 p1 p2 p3 p4 p5 ha hb hk hfl hgl hl
 go_enter Tryz.func12, Tryz.ntmps12
 go_wp2_with fail
 rw [← hW]
 clear hW
 go_loopw [5] (fun s5 wr => ∃ k : Nat, k ≤ t.nodes.length ∧ s5 = .int .i64 (k : Int) ∧ Hid (SmKeep w wr (.slice ao t.nodes.length cap) (.slice bo t.nodes.length cap2) (.int .i64 t.next))) (fun s5 _ => t.nodes.length - (intOf s5).toNat)
 case atStart => exact ⟨0, Nat.zero_le _, rfl, HW⟩
 case round =>
  obtain ⟨k, hkk, rfl, HS⟩ := hrel
  have x0 : wr.cell? ⟨w.heap.size, 0, none⟩ = some (.slice ao t.nodes.length cap) := by simp [World.cell?, HS.out.1]
  have y0 : wr.cell? ⟨w.heap.size + 1, 0, none⟩ = some (.slice bo t.nodes.length cap2) := by simp [World.cell?, HS.out.2.1]
  have xl : w.heap.size < wr.heap.size := (Array.getElem?_eq_some_iff.1 HS.out.1).1
  have yl : w.heap.size + 1 < wr.heap.size := (Array.getElem?_eq_some_iff.1 HS.out.2.1).1
  by_cases hlt : k < t.nodes.length
  · have kl : (k : Int) < (t.nodes.length : Int) := by omega
    obtain ⟨b1, o1, rfl, hb1, hc1⟩ := HQ5.out (by omega)
    obtain ⟨b2, o2, rfl, hb2, hc2⟩ := HP5.out (by omega)
    have hk1 : k < fs.length := by have := HF.out.2.2.2.2.1; omega
    have hk2 : k < gs.length := by have := HF.out.2.2.2.2.2; omega
    have a1 := (hc1 k hk1).below hb1 HS.out.2.2
    have a2 := (hc2 k hk2).below hb2 HS.out.2.2
    have f1 := (HF.out.2.1 _ (List.getElem_mem hk1)).below HS.out.2.2
    have f2 := (HF.out.2.2.2.1 _ (List.getElem_mem hk2)).below HS.out.2.2
    have n1 := fs_at HF.out.1 hk1
    have n2 := fs_at HF.out.2.2.1 hk2
    obtain ⟨f, hf⟩ : ∃ f, fs[k] = f := ⟨_, rfl⟩
    obtain ⟨g, hg⟩ : ∃ g, gs[k] = g := ⟨_, rfl⟩
    rw [hf] at a1 f1 n1
    rw [hg] at a2 f2 n2
    have hkd : (nodeAt t k).kind = 1 ∨ (nodeAt t k).kind = 2 := HKd.out _ (nodeAt_memT hlt)
    obtain ⟨nd, hnd⟩ : ∃ nd, nodeAt t k = nd := ⟨_, rfl⟩
    rw [hnd] at n1 n2 hkd
    obtain ⟨nf, df, mf, jf⟩ := f
    obtain ⟨ng, dg, mg, jg⟩ := g
    simp only at n1 n2
    subst n1 n2
    obtain ⟨ad1, cd1, e1, _⟩ := id f1.1
    obtain ⟨am1, cm1, e2, _⟩ := id f1.2.1
    obtain ⟨ai1, ci1, e3, _⟩ := id f1.2.2
    obtain ⟨ad2, cd2, e4, _⟩ := id f2.1
    obtain ⟨am2, cm2, e5, _⟩ := id f2.2.1
    obtain ⟨ai2, ci2, e6, _⟩ := id f2.2.2
    simp only [intsV_len, strs_len] at e1 e2 e3 e4 e5 e6
    subst e1 e2 e3 e4 e5 e6
    have F1 : Hid (FN.is wr ⟨nd, .slice ad1 nd.data.length cd1, .slice am1 nd.names.length cm1, .slice ai1 nd.inos.length ci1⟩) := f1
    have F2 : Hid (FN.is wr ⟨nd, .slice ad2 nd.data.length cd2, .slice am2 nd.names.length cm2, .slice ai2 nd.inos.length ci2⟩) := f2
    obtain ⟨u0, u1', u2', u3', u4'⟩ := a1
    obtain ⟨t0', t1', t2', t3', t4'⟩ := a2
    simp only at u0 u1' u2' u3' u4' t0' t1' t2' t3' t4'
    have i2 : (0 : Int) ≤ (k : Int) := by omega
    have l1 : b1 < wr.heap.size := by omega
    have l2 : b2 < wr.heap.size := by omega
    clear hc1 hc2 hf hg hnd f1 f2
    rcases hkd with hkd | hkd
    · have hd2 : (nd.kind == 2) = false := by rw [hkd]; rfl
      have hd1 : (nd.kind == 1) = true := by rw [hkd]; rfl
      have hcv := @conv_view Tryz.prog 33 9 5 Tryz.underlying33 Tryz.underlying5 Tryz.underlying9
      have hc1 : ∀ o o2 : Obj, (convert 33 9 (.slice ad1 nd.data.length cd1)).run Tryz.prog ((wr.alloc o).alloc o2) = .ok (.string (strOf nd.data)) ((wr.alloc o).alloc o2) := fun o o2 => hcv (sees_vwT ((F1.out.1.below (bel_newT _ o)).below (bel_newT _ o2)))
      have hc2 : ∀ o o2 : Obj, (convert 33 9 (.slice ad2 nd.data.length cd2)).run Tryz.prog ((wr.alloc o).alloc o2) = .ok (.string (strOf nd.data)) ((wr.alloc o).alloc o2) := fun o o2 => hcv (sees_vwT ((F2.out.1.below (bel_newT _ o)).below (bel_newT _ o2)))
      have hss := str_same (strOf nd.data)
      clear hcv F1 F2
      go_wp2
      go_round
      case rel => exact ⟨k + 1, by omega, by go_num, HS.out.below2 _ _⟩
      case measure => simp [intOf]; omega
    · have hd2 : (nd.kind == 2) = true := by rw [hkd]; rfl
      have hd1 : (nd.kind == 1) = false := by rw [hkd]; rfl
      have HTx : Hid (∀ o o2 : Obj, Calls Tryz.prog 26 #[.slice am1 nd.names.length cm1, .slice am2 nd.names.length cm2] ((wr.alloc o).alloc o2) fun e w' => e = .returned (.bool true) ∧ Below ((wr.alloc o).alloc o2).heap.size ((wr.alloc o).alloc o2) w') := fun o o2 => by
       have := texts_any _ _ nd.names nd.names ((wr.alloc o).alloc o2) ((F1.out.2.1.below (bel_newT _ o)).below (bel_newT _ o2)) ((F2.out.2.1.below (bel_newT _ o)).below (bel_newT _ o2))
       rw [decide_eq_true rfl] at this
       exact this
      have HIx : Hid (∀ w3, Below wr.heap.size wr w3 → Calls Tryz.prog 27 #[.slice ai1 nd.inos.length ci1, .slice ai2 nd.inos.length ci2] w3 fun e w' => e = .returned (.bool true) ∧ Below w3.heap.size w3 w') := fun w3 hb3 => ints_same _ _ nd.inos w3 (F1.out.2.2.below hb3) (F2.out.2.2.below hb3)
      clear F1 F2
      go_wp2_with fail
      go_at_call 26
      refine (HTx.out _ _).mono ?_
      rintro e w3 ⟨rfl, hb3⟩
      have v7 : w3.cell? ⟨wr.heap.size, 4, none⟩ = some (.slice ai1 nd.inos.length ci1) := cell_oldT hb3 (by simp)
      have v8 : w3.cell? ⟨wr.heap.size + 1, 4, none⟩ = some (.slice ai2 nd.inos.length ci2) := cell_oldT hb3 (by simp)
      have HB3 : Hid (Below wr.heap.size wr w3) := ((bel_newT wr _).trans ((bel_newT _ _).mono (by simp))).trans (hb3.mono (by simp; omega))
      clear hb3 HTx
      go_wp2_with fail
      go_at_call 27
      refine (HIx.out _ HB3.out).mono ?_
      rintro e w4 ⟨rfl, hb4⟩
      have HS4 : Hid (SmKeep w w4 (.slice (some ⟨b1, o1, none⟩) t.nodes.length cap) (.slice (some ⟨b2, o2, none⟩) t.nodes.length cap2) (.int .i64 t.next)) := (HS.out.below HB3.out).below hb4
      clear hb4 HB3 HIx
      go_wp2
      go_round
      case rel => exact ⟨k + 1, by omega, by go_num, HS4⟩
      case measure => simp [intOf]; omega
  · have kl : ¬ (k : Int) < (t.nodes.length : Int) := by omega
    go_wp2
    go_ret
    exact ⟨rfl, HS.out.2.2⟩
end Go.Proofs.YtbebgobboccjcaaGreatDoor
namespace Go.Proofs.YtbebgobboccjcaaGreatDoor
open Go.RowKit Kit
set_option linter.unusedVariables false

set_option maxRecDepth 4000 in
set_option maxHeartbeats 4000000 in
theorem tbytes_any (dv : Value) (l : List Int) (n : Nat) (w : World) (hd : Sees w dv (intsV .u8 l)) (hn : n ≤ 2000) :
 Calls Tryz.prog 90 #[dv, .int .i64 (n : Int)] w fun e w' => e = .returned (.slice (some ⟨w.heap.size, 0, none⟩) n n) ∧ w'.heap[w.heap.size]? = some (.cells (intsV .u8 (bytesB l n)).toArray 5 (0, 0)) ∧ Below w.heap.size w w' := by
 obtain ⟨ao, cap, rfl, h1, h2, h3, h4⟩ := hd
 rw [intsV_len] at h1 h4 ⊢
 have hm := run_make_row' (P := Tryz.prog) 33 5 (.int .u8 0) 1 Tryz.underlying33 infoU8 rfl .i64 .i64 n (by omega) (by omega) w
 obtain ⟨W1, hW1⟩ : ∃ W, W = w.alloc (.cells (madeCells #[.int .u8 0] n) 5) := ⟨_, rfl⟩
 rw [← hW1] at hm
 have H1 : Hid (W1.heap[w.heap.size]? = some (.cells (List.replicate n (Value.int .u8 0)).toArray 5 (0, 0)) ∧ Below w.heap.size w W1) := by
  rw [hW1, made_arr]
  exact ⟨(MapKept.heap_alloc w _).1, (Below.refl _ _).alloc (Nat.le_refl _) _⟩
 have HP : Hid (0 < ((intsV .u8 l).take n).length → ∃ ad, ao = some ad ∧ ∀ j v, ((intsV .u8 l).take n)[j]? = some v → W1.cell? (ad.add j) = some v) := fun h0 => by
  have hl0 : 0 < l.length := by rw [List.length_take, intsV_len] at h0; omega
  obtain ⟨b, off, e, hb, hh⟩ := h4 hl0
  refine ⟨_, e, fun j v hj => ?_⟩
  rw [Addr.add_lit, H1.out.2.cell (by exact hb)]
  rw [List.getElem?_take] at hj
  split at hj
  · exact hh j v hj
  · cases hj
 have HC : Hid (((intsV .u8 l).take n).length = Nat.min l.length n ∧ 0 + ((intsV .u8 l).take n).length ≤ (List.replicate n (Value.int .u8 0)).length ∧ ∀ v ∈ (intsV .u8 l).take n, v.oneCell' = true) := by
  refine ⟨by rw [List.length_take, intsV_len]; exact Nat.min_comm _ _, by rw [List.length_take, List.length_replicate]; omega, fun v hv => ints_one .u8 l v (List.mem_of_mem_take hv)⟩
 obtain ⟨cs, hcs⟩ : ∃ cs, (intsV .u8 l).take n = cs := ⟨_, rfl⟩
 have HSP : Hid (splice (List.replicate n (Value.int .u8 0)) 0 cs = intsV .u8 (bytesB l n)) := by show _ = _; rw [← hcs]; exact splice_bytes l n
 rw [hcs] at HP HC
 obtain ⟨cur, hcur⟩ : ∃ cur, List.replicate n (Value.int .u8 0) = cur := ⟨_, rfl⟩
 rw [hcur] at H1 HC HSP
 have ni : (n : Int) ≤ 2000 := by omega
 have n0 : (0 : Int) ≤ (n : Int) := by omega
 obtain ⟨w2, hcp, hg2, hb2⟩ := run_copy_sp W1 ao n n l.length cap w.heap.size 0 cur H1.out.1 cs HC.out.1 HP.out HC.out.2.1 HC.out.2.2 w.heap.size w H1.out.2 (Nat.le_refl _)
 have HG : Hid (w2.heap[w.heap.size]? = some (.cells (splice cur 0 cs).toArray 5 (0, 0)) ∧ Below w.heap.size w w2) := ⟨hg2, hb2⟩
 clear h1 h2 h3 h4 hW1 hcs hcur hg2 hb2 HP HC
 go_enter Tryz.func90, Tryz.ntmps90
 go_wp2
 go_ret
 refine ⟨rfl, ?_, HG.out.2⟩
 rw [← HSP.out]
 exact HG.out.1
end Go.Proofs.YtbebgobboccjcaaGreatDoor
namespace Go.Proofs.YtbebgobboccjcaaGreatDoor
open Go.RowKit Kit
set_option linter.unusedVariables false

def opV (o : OpB) (dv : Value) : Value := .agg #[.int .i64 o.kind, .string o.path, .string o.to, .int .i64 o.off, .int .i64 o.n, dv, .int .i64 o.snap]
def OpAt (w : World) (v : Value) (o : OpB) : Prop := ∃ dv, v = opV o dv ∧ Sees w dv (intsV .u8 o.data) ∧ o.path.size ≤ maxLen ∧ o.to.size ≤ maxLen ∧ bytesIn o.data
def ReplyAt (w : World) (v : Value) (r : ReplyB) : Prop := ∃ dv nv sv, v = .agg #[.int .i64 r.ino, .int .i64 r.kind, .int .i64 r.size, .int .i64 r.links, .int .i64 r.n, dv, nv, sv] ∧ Sees w dv (intsV .u8 r.data) ∧ Sees w nv (strs r.names) ∧ Sees w sv (intsV .i64 r.snaps)
theorem OpAt.below {w w' : World} {v : Value} {o : OpB} (h : OpAt w v o) (hb : Below w.heap.size w w') : OpAt w' v o := by
 obtain ⟨dv, h1, h2, h3⟩ := h
 exact ⟨dv, h1, h2.below hb, h3⟩
theorem sees_nil0 (w : World) (xs : List Value) (h : xs = []) : Sees w (.slice none 0 0) xs := by
 subst h
 exact ⟨none, 0, rfl, by simp, by simp, fun _ => rfl, fun h => by simp at h⟩
theorem replyAt_no' (w : World) (a b c d e : Int) : ReplyAt w (.agg #[.int .i64 a, .int .i64 b, .int .i64 c, .int .i64 d, .int .i64 e, .slice none 0 0, .slice none 0 0, .slice none 0 0]) ⟨a, b, c, d, e, [], [], []⟩ :=
 ⟨_, _, _, rfl, sees_nil0 _ _ rfl, sees_nil0 _ _ rfl, sees_nil0 _ _ rfl⟩
end Go.Proofs.YtbebgobboccjcaaGreatDoor
