/- slices.Sorted(maps.Keys(m)) of a map by numbers. -/
import Derived.Test.YtbebgobboccjcaaGreatDoorPShelfK
import Derived.Test.YtbebgobboccjcaaGreatDoorH1
import Derived.OwnWalkIn
namespace Go.Proofs.YtbebgobboccjcaaGreatDoor
open Go.RowKit Go.Maps Go.Sort Go.Shelf Kit
set_option linter.unusedVariables false

theorem sortsI (m : Nat) : AnyZI.SortsIn Tryz.prog Tryz.sortedI_ren Fence.wide m :=
 ⟨fun blk off cap ss W hH hblk hsz => callsIn_wide.2 (AnyM.slices_Sort_int Tryz.sortI blk off cap ss W hH hblk hsz),
  fun p cap W => callsIn_wide.2 (AnyM.slices_Sort_int_none Tryz.sortI p cap W)⟩
theorem keysI_any (mb : Option Nat) (W : World) : Calls Tryz.prog 34 #[.map mb] W fun e w' => e = .returned (.func (.func 58) #[] #[.pointer (some ⟨W.heap.size, 0, none⟩)]) ∧ w' = W.alloc (.cells #[.map mb] 50) :=
 (callsIn_wide (n := 5)).1 (AnyZI.keys_in Tryz.keysI Fence.wide 5 trivial rfl mb W)
theorem sorted_unique : ∀ (l l' : List Int), l.Perm l' → l.Pairwise (· ≤ ·) → l'.Pairwise (· ≤ ·) → l = l'
 | [], l', hp, _, _ => (List.nil_perm.1 hp).symm
 | a :: l, l', hp, h, h' => by
   match l', hp, h' with
   | [], hp, _ => exact absurd hp.length_eq (by simp)
   | b :: m, hp, h' =>
     have hab : a = b := by
      have h1 : a ∈ b :: m := hp.mem_iff.1 List.mem_cons_self
      have h2 : b ∈ a :: l := hp.mem_iff.2 List.mem_cons_self
      rcases List.mem_cons.1 h1 with e | e
      · exact e
      rcases List.mem_cons.1 h2 with e2 | e2
      · exact e2.symm
      have k1 := (List.pairwise_cons.1 h').1 a e
      have k2 := (List.pairwise_cons.1 h).1 b e2
      omega
     subst hab
     rw [sorted_unique l m ((List.perm_cons a).1 hp) (List.pairwise_cons.1 h).2 (List.pairwise_cons.1 h').2]
theorem keys_ent (es : List (Int × Value)) : intKeys (entD es) = es.map Prod.fst := by
 unfold entD intKeys
 simp only [List.map_map]
 rfl
theorem rise_sorted (ss : List Int) (es : List (Int × Value)) (hp : ss.Perm (es.map Prod.fst)) (hr : RiseK es) : ss.mergeSort (fun x y => decide (x ≤ y)) = es.map Prod.fst := by
 refine sorted_unique _ _ ((List.mergeSort_perm ss _).trans hp) ?_ ?_
 · have := List.pairwise_mergeSort (le := fun x y : Int => decide (x ≤ y)) (by intro a b c; simp; omega) (by intro a b; simp; omega) ss
   exact this.imp (by intro a b h; simpa using h)
 · exact List.pairwise_map.2 (hr.imp (by intro a b h; omega))
theorem sortedI_any (w : World) (b : Nat) (es : List (Int × Value)) (h : MapIs Tryz.prog 3 w b es) (hl : es.length ≤ 1000) :
 Calls Tryz.prog 33 #[.func (.func 58) #[] #[.pointer (some ⟨w.heap.size, 0, none⟩)]] (w.alloc (.cells #[.map (some b)] 50)) fun e w' => ∃ v, e = .returned v ∧ RowV w' w.heap.size 3 v (es.map fun x => .int .i64 x.1) ∧ Below w.heap.size w w' := by
 have hown := h.1
 have hbl := hown.lt
 have hseq : SeqGives Fence.wide 2 Tryz.prog 58 #[.pointer (some ⟨w.heap.size, 0, none⟩)] encZ (fun ss => ss.Perm (intKeys (entD es))) (Maps.size (entD es)) (w.alloc (.cells #[.map (some b)] 50)) :=
  AnyZI.keys_gives (ρ := Tryz.keysI_ren) { Tryz.keysI with } Fence.wide _ trivial rfl (by omega) w.heap.size b es.length _ _ (by simp) (by simp) (by
   obtain ⟨es', clock, hb, Ft, hs, hD⟩ := hown
   exact ⟨es', clock, (Below.heap_alloc _ _ b hbl).trans hb, Ft, hs, hD⟩)
 have hsz : Maps.size (entD es) ≤ 1000 := by simpa [Maps.size, entD] using hl
 have cS := AnyZI.sorted_in Tryz.sortedI Fence.wide 5 trivial trivial trivial trivial rfl (by omega) (sortsI _) (enters_of Tryz.func57 (by kernel_rfl) rfl) 58 #[.pointer (some ⟨w.heap.size, 0, none⟩)] trivial (enters_of Tryz.func58 (by kernel_rfl) rfl) _ _ (by unfold maxLen; omega) (by omega) _ hseq
 refine ((callsIn_wide (n := 5)).1 cS).mono ?_
 rintro e w' ⟨v, ss, rfl, hS, hrow, hnil, hb⟩
 rw [keys_ent] at hS
 rw [rise_sorted ss es hS h.2] at hrow
 have hlen : ss.length = es.length := by rw [hS.length_eq, List.length_map]
 refine ⟨v, rfl, ?_, ?_⟩
 · have hm : (es.map Prod.fst).map encZ = es.map fun x => Value.int .i64 x.1 := by simp only [List.map_map]; rfl
   rw [hm, hlen] at hrow
   have hr : RowV w' (w.alloc (.cells #[.map (some b)] 50)).heap.size 3 v (es.map fun x => Value.int .i64 x.1) := by
    unfold RowV
    rw [List.length_map]
    exact hrow
   exact hr.mono (by simp)
 · exact ((Below.refl _ w).alloc (Nat.le_refl _) _).trans (hb.mono (by simp))
end Go.Proofs.YtbebgobboccjcaaGreatDoor
