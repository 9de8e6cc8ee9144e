/- (*extent.Map).Pages. -/
import Derived.Test.YthdmclhccbjgoaaESortI
import Derived.Test.YthdmclhccbjgoaaEReads
import Derived.Test.YthdmclhccbjgoaaREnd
namespace Go.Proofs.Ythdmclhccbjgoaa
open Go.RowKit Kit
set_option linter.unusedVariables false

set_option maxRecDepth 4000 in
set_option maxHeartbeats 4000000 in
theorem epages_any (p B : Nat) (v : Value) (ps : List Pc) (w : World) (hm : EMap w p B v ps) (hl : ps.length ≤ 1000) :
    Calls Try.prog 19 #[.pointer (some ⟨p, 0, none⟩)] w fun e w' => ∃ r, e = .returned r ∧ RowV w' w.heap.size 3 r (iV (srtI (ps.map Pc.page))) ∧ Below w.heap.size w w' := by
  have HM : Hid (EMap w p B v ps) := hm
  obtain ⟨ao, cap, rfl⟩ := hm.row.sees.form
  obtain ⟨n, hn⟩ : ∃ n, n = ps.length := ⟨_, rfl⟩
  have HNL : Hid (n = ps.length) := hn
  have hs := hm.row.sees
  rw [← hn] at HM hs
  have HS : Hid (SeesE pcE w (.slice ao n cap) ps) := hs
  have hli : (n : Int) ≤ 1000 := by omega
  clear hm hs hn
  go_enter Try.func19, Try.ntmps19
  go_wp2_with (go_at_call 31; refine (eall_any p _ _ HM.out.cell).mono ?_; rintro e w1 ⟨rfl, hw1⟩; subst w1)
  go_loopw [3, 9] (fun s3 s9 wr => ∃ (i : Nat) (ax : Option Addr) (nx cx : Nat), i ≤ n ∧ s3 = .slice ax nx cx ∧ s9 = .int .i64 (i : Int) ∧ Hid (RowV wr w.heap.size 3 (.slice ax nx cx) (iV ((ps.take i).map Pc.page)) ∧ Below w.heap.size w wr)) (fun _ s9 _ => n - (intOf s9).toNat)
  case atStart => exact ⟨0, none, 0, 0, Nat.zero_le _, rfl, rfl, ⟨rowV_nil _ _ _, Below.refl _ _⟩⟩
  case round =>
    obtain ⟨i, ax, nx, cx, hi, rfl, rfl, HI⟩ := hrel
    by_cases hlt : i < n
    · have hli2 : (i : Int) < (n : Int) := by omega
      have hi0 : (0 : Int) ≤ (i : Int) := by omega
      have hil : i < ps.length := by have := HNL.out; omega
      obtain ⟨bb, off, e, hnn, hB, hc⟩ := pc_cells (HS.out.below HI.out.2) (by omega)
      clear hnn
      subst e
      obtain ⟨c0, c1, c2, c3⟩ := hc i hil
      have HC := iV_snoc ps i hil
      obtain ⟨q, hq⟩ : ∃ q, q = ps[i] := ⟨_, rfl⟩
      rw [← hq] at c0 c1 c2 c3 HC
      clear hq hc
      obtain ⟨po, pl, pg, pp⟩ := q
      simp only at c0 c1 c2 c3 HC
      have HC : Hid (iV ((ps.take (i + 1)).map Pc.page) = iV ((ps.take i).map Pc.page) ++ [.int .i64 pg]) := HC
      have HL : Hid ((iV ((ps.take i).map Pc.page)).length ≤ 1000) := by
        show _ ≤ _
        rw [iV_len, List.length_map, List.length_take]; omega
      go_upto_region 5 with fail
      obtain ⟨W1, hW1⟩ : ∃ z, z = wr.alloc (.cells #[.int .i64 po, .int .i64 pl, .int .i64 pg, .int .i64 pp] 35) := ⟨_, rfl⟩
      have hh : W1.heap[wr.heap.size]? = some (.cells #[.int .i64 po, .int .i64 pl, .int .i64 pg, .int .i64 pp] 35) := by rw [hW1]; exact (MapKept.heap_alloc wr _).1
      have hbl : Below wr.heap.size wr W1 := by rw [hW1]; exact bel_newG _ _
      have x2 : W1.cell? ⟨wr.heap.size, 2, none⟩ = some (.int .i64 pg) := blk_cell hh rfl
      have HI1 : Hid (RowV W1 w.heap.size 3 (.slice ax nx cx) (iV ((ps.take i).map Pc.page)) ∧ Below w.heap.size w W1) := ⟨HI.out.1.below hbl, bel_tr HI.out.2 hbl⟩
      rw [← hW1]
      clear hW1 hh hbl HI c0 c1 c2 c3 hB
      have HS1 : Hid (Sees (W1.alloc (.cells #[.int .i64 pg] 3)) (.slice (some ⟨W1.heap.size, 0, none⟩) 1 1) [.int .i64 pg]) := sees_one W1 3 (.int .i64 pg) _ rfl
      have HR1 : Hid (RowV (W1.alloc (.cells #[.int .i64 pg] 3)) w.heap.size 3 (.slice ax nx cx) (iV ((ps.take i).map Pc.page))) := HI1.out.1.below (bel_newG _ _)
      obtain ⟨n1, hn1⟩ : ∃ z, z = (iV ((ps.take i).map Pc.page) ++ [Value.int .i64 pg]).length := ⟨_, rfl⟩
      have HN : Hid (n1 = _) := hn1
      clear hn1
      have HSZ : Hid (w.heap.size ≤ (W1.alloc (.cells #[.int .i64 pg] 3)).heap.size ∧ ((iV ((ps.take i).map Pc.page)).length + [Value.int .i64 pg].length) * 16 ≤ 140737488355328) := by
        have h1 := HI1.out.2.size
        have h2 := HL.out
        exact ⟨by simp; omega, by simp only [List.length_cons, List.length_nil]; omega⟩
      go_wp2_with (at_builtin; refine wpList_appV Try.underlying47 infoI9 rfl (by omega) rfl _ _ rfl w.heap.size _ (iV ((ps.take i).map Pc.page)) rfl HR1.out _ [.int .i64 pg] rfl HS1.out (by intro u hu; simp at hu; subst hu; rfl) HSZ.out.2 HSZ.out.1 ?_; intro v' w' k1 k2; have HK : Hid (RowV w' w.heap.size 3 v' (iV ((ps.take i).map Pc.page) ++ [.int .i64 pg]) ∧ Below w.heap.size w w') := ⟨k1, (HI1.out.2.alloc HI1.out.2.size _).trans k2⟩; obtain ⟨a1, c1', hv1, _⟩ := k1.sees; rw [← HN.out] at hv1; subst hv1; clear k1 k2 HR1 HS1)
      go_wp2
      go_roundw
      case rel => exact ⟨i + 1, _, _, _, by omega, rfl, by go_num, ⟨by rw [HC.out]; exact HK.out.1, HK.out.2⟩⟩
      case measure => simp [intOf]; omega
    · have hli2 : ¬ (i : Int) < (n : Int) := by omega
      have HE : Hid (RowV wr w.heap.size 3 (.slice ax nx cx) (iV (ps.map Pc.page)) ∧ Below w.heap.size w wr) := by
        have := HI.out
        rw [List.take_of_length_le (by have := HNL.out; omega)] at this
        exact this
      have HLN : Hid ((ps.map Pc.page).length ≤ 1000) := by have := HNL.out; show _ ≤ _; rw [List.length_map]; omega
      clear HI hi hlt HS HM HNL
      go_wp2_with fail
      go_at_call 37
      refine (sortI_any _ (ps.map Pc.page) wr w.heap.size HE.out.1 (by have := HLN.out; omega) HE.out.2.size).mono ?_
      rintro e w2 ⟨rfl, k1, k2⟩
      have H2 : Hid (RowV w2 w.heap.size 3 (.slice ax nx cx) (iV ((ps.map Pc.page).mergeSort fun x y => decide (x ≤ y))) ∧ Below w.heap.size w w2) := ⟨k1, HE.out.2.trans k2⟩
      clear k1 k2 HE
      go_wp2_with fail
      go_at_call 38
      refine (compI_any _ _ w2 w.heap.size H2.out.1 (by rw [List.length_mergeSort]; have := HLN.out; omega)).mono ?_
      rintro e w3 ⟨r, rfl, k1, k2⟩
      have H3 : Hid (RowV w3 w.heap.size 3 r (iV (srtI (ps.map Pc.page))) ∧ Below w.heap.size w w3) := ⟨by rw [← uniq_srt]; exact k1, H2.out.2.trans k2⟩
      clear k1 k2 H2
      go_wp2_with fail
      go_ret
      exact ⟨r, rfl, H3.out⟩
end Go.Proofs.Ythdmclhccbjgoaa
