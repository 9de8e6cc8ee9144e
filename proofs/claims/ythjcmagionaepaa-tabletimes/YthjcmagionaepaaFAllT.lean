/- package table: All. -/
import Derived.Test.YthjcmagionaepaaFNamesT
import Derived.Test.YthjcmagionaepaaShelfT
import Derived.OwnWalkIn
namespace Go.Proofs.Ythjcmagionaepaa
open Go.RowKit Go.Maps Go.Sort Go.Shelf Kit
set_option linter.unusedVariables false

theorem keysT_any (mb : Option Nat) (W : World) : Calls Try.prog 23 #[.map mb] W fun e w' => e = .returned (.func (.func 32) #[] #[.pointer (some ⟨W.heap.size, 0, none⟩)]) ∧ w' = W.alloc (.cells #[.map mb] 38) :=
  (callsIn_wide (n := 5)).1 (AnyZ.keys_in Try.keysT Fence.wide 5 trivial rfl mb W)
theorem MapR.klen {w : World} {B : Nat} {mo : Option Nat} {g : ByteArray → Option Value} {ρ : ByteArray → List Rw} (h : MapR w B mo g ρ) (s : ByteArray) (hs : (g s).isSome = true) : s.size ≤ maxLen := by
  rcases h.map with ⟨_, h1⟩ | ⟨b, _, _, D, hown, hD⟩
  · rw [h1] at hs; cases hs
  · have h2 := hD.2 s
    rw [hs] at h2
    obtain ⟨k1, k2, k3⟩ := keysS_of hown Try.underlying9
    have := strKeys_le hown Try.underlying9 _ ((k3 s.data.toList).2 h2)
    simpa using this
theorem strs_ofL (ss : List (List UInt8)) : ss.map encStr = strs (ss.map ofL) := by
  simp only [strs, List.map_map]
  rfl
/-- A map's keys, as a new slice, in whatever order. -/
theorem collectT_any {w : World} {B : Nat} {mo : Option Nat} {g : ByteArray → Option Value} {ρ : ByteArray → List Rw} (h : MapR w B mo g ρ) (L : List ByteArray) (hL : ∀ s, (g s).isSome = true → s ∈ L) (hLn : L.length ≤ 900) :
    Calls Try.prog 22 #[.func (.func 32) #[] #[.pointer (some ⟨w.heap.size, 0, none⟩)]] (w.alloc (.cells #[.map mo] 38)) fun e w' => ∃ v l, e = .returned v ∧ Sees w' v (strs l) ∧ (∀ s, s ∈ l ↔ (g s).isSome = true) ∧ l.length ≤ 900 ∧ Below w.heap.size w w' := by
  have hcell : (w.alloc (.cells #[.map mo] 38)).cell? ⟨w.heap.size, 0, none⟩ = some (.map mo) := blk_cell (MapKept.heap_alloc w _).1 rfl
  rcases h.map with ⟨rfl, h1⟩ | ⟨b, rfl, _, h2⟩
  · have hseq : SeqGives Fence.wide 3 Try.prog 32 #[.pointer (some ⟨w.heap.size, 0, none⟩)] encStr (fun ss : List (List UInt8) => ss = []) 0 (w.alloc (.cells #[.map none] 38)) :=
      AnyZ.keys_gives_nil (ρ := Try.keysT_ren) { Try.keysT with } Fence.wide _ trivial rfl w.heap.size _ (by simp) hcell
    have cS := AnyZ.collect_in Try.collectT Fence.wide 5 trivial trivial rfl (by omega) 32 #[.pointer (some ⟨w.heap.size, 0, none⟩)] trivial (enters_of Try.func32 (by kernel_rfl) rfl) _ _ (by unfold maxLen; omega) (by omega) _ hseq
    refine ((callsIn_wide (n := 5)).1 cS).mono ?_
    rintro e w' ⟨v, ss, rfl, hS, hrow, hnil, hb⟩
    have hS : ss = [] := hS
    subst hS
    have hv := hnil.2 rfl
    subst hv
    refine ⟨_, [], rfl, (rowV_nil w' 0 9).sees, fun s => by rw [h1]; simp, by simp, ((Below.refl _ w).alloc (Nat.le_refl _) _).trans (hb.mono (by simp))⟩
  · obtain ⟨D, hown, hD, hsz⟩ := h2.count Try.underlying9 L hL
    have hbl := hown.lt
    obtain ⟨k1, k2, k3⟩ := keysS_of hown Try.underlying9
    have hseq : SeqGives Fence.wide 3 Try.prog 32 #[.pointer (some ⟨w.heap.size, 0, none⟩)] encStr (fun ss => ss.Perm (strKeys D)) (Maps.size D) (w.alloc (.cells #[.map (some b)] 38)) :=
      AnyZ.keys_gives (ρ := Try.keysT_ren) { Try.keysT with } Fence.wide _ trivial rfl (by omega) w.heap.size b _ D _ (by simp) hcell (by
        obtain ⟨es', clock, hb, Ft, hs, hD⟩ := hown
        exact ⟨es', clock, (Below.heap_alloc _ _ b hbl).trans hb, Ft, hs, hD⟩)
    have cS := AnyZ.collect_in Try.collectT Fence.wide 5 trivial trivial rfl (by omega) 32 #[.pointer (some ⟨w.heap.size, 0, none⟩)] trivial (enters_of Try.func32 (by kernel_rfl) rfl) _ _ (by unfold maxLen; omega) (by omega) _ hseq
    refine ((callsIn_wide (n := 5)).1 cS).mono ?_
    rintro e w' ⟨v, ss, rfl, hS, hrow, hnil, hb⟩
    have hS : ss.Perm (strKeys D) := hS
    refine ⟨v, ss.map ofL, rfl, ?_, fun s => ?_, ?_, ((Below.refl _ w).alloc (Nat.le_refl _) _).trans (hb.mono (by simp))⟩
    · have hr : RowV w' (w.alloc (.cells #[.map (some b)] 38)).heap.size 9 v (strs (ss.map ofL)) := by
        rw [← strs_ofL]
        unfold RowV
        rw [List.length_map]
        exact hrow
      exact hr.sees
    · rw [← hD.2 s, List.mem_map]
      constructor
      · rintro ⟨x, hx, rfl⟩
        have := (k3 x).1 (hS.mem_iff.1 hx)
        have e : litS (ofL x) = .string x := by simp [litS, ofL]
        rw [e]; exact this
      · intro hs
        exact ⟨s.data.toList, hS.mem_iff.2 ((k3 _).2 hs), ofL_toL s⟩
    · rw [List.length_map, hS.length_eq, k2]; omega
theorem infoEnA : (Try.prog.info? 48).map (fun i => (i.zero, i.size, i.bytes)) = some (some (.agg #[.string ⟨#[]⟩, .int .i64 0, .int .i64 0, .int .i64 0]), rwE.k, 40) := by kernel_rfl
theorem flat_le {ρ : ByteArray → List Rw} (ks : List ByteArray) (i : Nat) (hi : i < ks.length) : ((ks.take i).flatMap ρ).length + (ρ ks[i]).length ≤ (ks.flatMap ρ).length := by
  have h1 : (ks.take i).flatMap ρ ++ ρ ks[i] ++ (ks.drop (i + 1)).flatMap ρ = ks.flatMap ρ := by
    have h2 : ks = ks.take i ++ ks[i] :: ks.drop (i + 1) := by rw [← List.drop_eq_getElem_cons hi, List.take_append_drop]
    conv => rhs; rw [h2]
    rw [List.flatMap_append, List.flatMap_cons, List.append_assoc]
  rw [← h1]
  simp only [List.length_append]
  omega
theorem flat_step {ρ : ByteArray → List Rw} (ks : List ByteArray) (i : Nat) (hi : i < ks.length) : (ks.take (i + 1)).flatMap ρ = (ks.take i).flatMap ρ ++ ρ ks[i] := by
  rw [List.take_add_one, List.getElem?_eq_getElem hi, List.flatMap_append]
  simp
set_option maxRecDepth 4000 in
set_option maxHeartbeats 4000000 in
theorem tall_core {w : World} {B : Nat} {mo : Option Nat} {g : ByteArray → Option Value} {ρ : ByteArray → List Rw} (pv : Value) (h : MapR w B mo g ρ) (hk : ∀ X, Below w.heap.size w X → Calls Try.prog 17 #[pv] X fun x w' => x = .returned (.map mo) ∧ w' = X)
    (L : List ByteArray) (hL : ∀ s, (g s).isSome = true → s ∈ L) (hLn : L.length ≤ 900) (hT : ∀ ks, Rising ks → (∀ s, s ∈ ks ↔ (g s).isSome = true) → (ks.flatMap ρ).length ≤ 900) :
    Calls Try.prog 11 #[pv] w fun x w' => ∃ r ks, x = .returned r ∧ RowE rwE w' w.heap.size 48 r (ks.flatMap ρ) ∧ Rising ks ∧ (∀ s, s ∈ ks ↔ (g s).isSome = true) ∧ Below w.heap.size w w' := by
  have HK : Hid (Calls Try.prog 17 #[pv] w fun x w' => x = .returned (.map mo) ∧ w' = w) := hk w (Below.refl _ _)
  have HKY : Hid (Calls Try.prog 23 #[.map mo] w fun e w' => e = .returned (.func (.func 32) #[] #[.pointer (some ⟨w.heap.size, 0, none⟩)]) ∧ w' = w.alloc (.cells #[.map mo] 38)) := keysT_any mo w
  have HCO : Hid (Calls Try.prog 22 #[.func (.func 32) #[] #[.pointer (some ⟨w.heap.size, 0, none⟩)]] (w.alloc (.cells #[.map mo] 38)) fun e w' => ∃ v l, e = .returned v ∧ Hid (Sees w' v (strs l) ∧ (∀ s, s ∈ l ↔ (g s).isSome = true) ∧ l.length ≤ 900 ∧ Below w.heap.size w w')) := by
    refine (collectT_any h L hL hLn).mono ?_
    rintro e w' ⟨v, l, h1, h2⟩
    exact ⟨v, l, h1, h2⟩
  have HM : Hid (MapR w B mo g ρ ∧ (∀ s, (g s).isSome = true → s.size ≤ maxLen) ∧ (∀ ks, Rising ks → (∀ s, s ∈ ks ↔ (g s).isSome = true) → (ks.flatMap ρ).length ≤ 900)) := ⟨h, h.klen, hT⟩
  clear h hk L hL hLn hT
  go_enter Try.func11, Try.ntmps11
  go_wp2_with fail
  go_at_call 17
  refine HK.out.mono ?_
  rintro e w1 ⟨rfl, hw⟩
  subst w1
  go_wp2_with fail
  go_at_call 23
  refine HKY.out.mono ?_
  rintro e w1 ⟨rfl, hw⟩
  have hw := hw.symm
  subst hw
  go_wp2_with fail
  go_at_call 22
  refine HCO.out.mono ?_
  rintro e w1 ⟨v, l, rfl, H1⟩
  clear HK HKY HCO
  have HSR : Hid (Calls Try.prog 21 #[v] w1 fun e w' => ∃ r, e = .returned r ∧ Sees w' r (strs (sortedB l)) ∧ Below w1.heap.size w1 w') := nsorted_any v l w1 H1.out.1 (by have := H1.out.2.2.1; omega)
  go_wp2_with fail
  go_at_call 21
  refine HSR.out.mono ?_
  rintro e w2 ⟨r, rfl, hs2, hb2⟩
  clear HSR
  obtain ⟨ks, hks⟩ : ∃ ks, ks = sortedB l := ⟨_, rfl⟩
  rw [← hks] at hs2
  have HKS : Hid (Rising ks ∧ (∀ s, s ∈ ks ↔ (g s).isSome = true) ∧ ks.length ≤ 900 ∧ Below w.heap.size w w2) := by
    refine ⟨by rw [hks]; exact sorted_rising l, fun s => by rw [hks, sorted_mem]; exact H1.out.2.1 s, ?_, bel_tr H1.out.2.2.2 hb2⟩
    rw [hks]; exact Nat.le_trans (sorted_len l) H1.out.2.2.1
  clear H1 hb2 hks
  obtain ⟨ro, rc, rfl, s1, s2, s3, s4⟩ := hs2
  rw [strs_len] at *
  have HCC : Hid (0 < ks.length → ∃ b off, ro = some ⟨b, off, none⟩ ∧ b < w2.heap.size ∧ ∀ (j : Nat) (x : Value), (strs ks)[j]? = some x → w2.cell? ⟨b, off + j, none⟩ = some x) := s4
  obtain ⟨n, hn⟩ : ∃ n, n = ks.length := ⟨_, rfl⟩
  rw [← hn]
  have HN : Hid (n = ks.length) := hn
  have hn9 : (n : Int) ≤ 900 := by have := HKS.out.2.2.1; omega
  clear s1 s2 s3 s4 hn
  go_wp2_with fail
  go_loopw [3, 14] (fun s3 s14 wr => ∃ (i : Nat), i ≤ n ∧ s14 = .int .i64 (i : Int) ∧ Hid (RowE rwE wr w2.heap.size 48 s3 ((ks.take i).flatMap ρ) ∧ Below w2.heap.size w2 wr)) (fun _ s14 _ => n - (intOf s14).toNat)
  case atStart => exact ⟨0, Nat.zero_le _, rfl, by simpa using rowE_nil rwE w2 _ _, Below.refl _ _⟩
  case round =>
    obtain ⟨i, hi, rfl, HI⟩ := hrel
    by_cases hlt : i < n
    · have hil : (i : Int) < (n : Int) := by omega
      have hi0 : (0 : Int) ≤ (i : Int) := by omega
      have hik : i < ks.length := by have := HN.out; omega
      obtain ⟨b, off, hro, hb, hc⟩ := HCC.out (by omega)
      subst hro
      have c0 : wr.cell? ⟨b, off + i, none⟩ = some (.string ks[i]) := (HI.out.2.cell (by exact hb)).trans (hc i _ (by simp [strs, hik]))
      have hbw := bel_tr HKS.out.2.2.2 HI.out.2
      have hgs := (HKS.out.2.1 ks[i]).1 (List.getElem_mem _)
      have hlk := HM.out.1.lookup hbw (HM.out.2.1 _ hgs)
      have hrw := ((HM.out.1.below hbw).rowv ks[i]).sees
      have hfl := flat_le (ρ := ρ) ks i hik
      have htt := HM.out.2.2 ks HKS.out.1 HKS.out.2.1
      have HST : Hid ((ks.take (i + 1)).flatMap ρ = (ks.take i).flatMap ρ ++ ρ ks[i]) := flat_step ks i hik
      obtain ⟨x, hx⟩ : ∃ x, x = ks[i] := ⟨_, rfl⟩
      rw [← hx] at c0 hlk hrw hfl HST
      obtain ⟨u, hu⟩ : ∃ u, u = rv g x := ⟨_, rfl⟩
      rw [← hu] at hlk hrw
      have HU : Hid (SeesE rwE wr u (ρ x) ∧ ((ks.take i).flatMap ρ).length + (ρ x).length ≤ maxLen ∧ (((ks.take i).flatMap ρ).length + (ρ x).length) * 40 ≤ 140737488355328 ∧ w2.heap.size ≤ wr.heap.size) := ⟨hrw, by unfold maxLen; omega, by omega, HI.out.2.size⟩
      clear hc hbw hgs hrw hfl htt hx hu hb
      go_wp2_with (at_builtin; refine wpList_appF (E := rwE) Try.underlying34 infoEnA rfl rfl _ _ rfl w2.heap.size u3 ((ks.take i).flatMap ρ) rfl HI.out.1 u (ρ x) rfl HU.out.1 HU.out.2.1 HU.out.2.2.1 HU.out.2.2.2 ?_; intro l3 w3 hr3 hg3 hf3)
      have HB3 : Hid (RowE rwE w3 w2.heap.size 48 l3 ((ks.take (i + 1)).flatMap ρ) ∧ Below w2.heap.size w2 w3) := ⟨by rw [HST.out]; exact hr3, HI.out.2.grown hg3 HI.out.2.size (fun k hk => HI.out.1.block k hk)⟩
      clear hr3 hg3 hf3 HU HST hlk c0
      go_wp2_with fail
      go_roundw
      case rel => exact ⟨i + 1, by omega, by go_num, HB3.out⟩
      case measure => simp [intOf]; omega
    · have hil : ¬ (i : Int) < (n : Int) := by omega
      have HE : Hid (RowE rwE wr w.heap.size 48 u3 (ks.flatMap ρ) ∧ Below w.heap.size w wr) := by
        have h1 := HI.out.1
        rw [List.take_of_length_le (by have := HN.out; omega)] at h1
        exact ⟨h1.mono HKS.out.2.2.2.size, bel_tr HKS.out.2.2.2 HI.out.2⟩
      go_wp2_with fail
      go_ret
      exact ⟨_, rfl, ks, HE.out.1, HKS.out.1, HKS.out.2.1, HE.out.2⟩
/-- What All answers is the document's. -/
theorem all_names {t : Tb} (h : Inv t) {ks : List ByteArray} (hr : Rising ks) (hm : ∀ s, s ∈ ks ↔ t.rs.filter (ofN s) ≠ []) : ks.flatMap (fun s => t.rs.filter (ofN s)) = allW t.rs := by
  have hnm : ∀ s x, x ∈ t.rs.filter (ofN s) → x.name = s := fun s x hx => ofN_iff.1 (List.mem_filter.1 hx).2
  refine allW_names (inv_born h) ?_ fun n => ?_
  · rw [List.pairwise_flatMap]
    refine ⟨fun s hs => List.pairwise_of_forall_mem_list fun a ha b hb => ?_, hr.imp fun {a b} hab x hx y hy => ?_⟩
    · rw [hnm s a ha, hnm s b hb]; exact less_irrefl s
    · rw [hnm a x hx, hnm b y hy]
      exact fun e => less_irrefl _ (less_trans hab e)
  · rw [List.filter_flatMap]
    have hone : ∀ s, (t.rs.filter (ofN s)).filter (ofN n) = if s = n then t.rs.filter (ofN n) else [] := fun s => by
      by_cases e : s = n
      · subst e
        rw [if_pos rfl, List.filter_filter]
        congr 1
        funext a
        exact Bool.and_self _
      · rw [if_neg e, List.filter_eq_nil_iff]
        intro a ha
        rw [ofN_iff, hnm s a ha]
        exact e
    simp only [hone]
    by_cases hn : n ∈ ks
    · clear hm
      induction ks with
      | nil => cases hn
      | cons a r ih =>
        obtain ⟨h1, h2⟩ := List.pairwise_cons.1 hr
        rw [List.flatMap_cons]
        by_cases e : a = n
        · subst e
          rw [if_pos rfl]
          have : r.flatMap (fun s => if s = a then t.rs.filter (ofN a) else []) = [] := by
            rw [List.flatMap_eq_nil_iff]
            intro b hb
            rw [if_neg]
            intro e
            subst e
            exact less_irrefl _ (h1 b hb)
          rw [this, List.append_nil]
        · rw [if_neg e, List.nil_append]
          rcases List.mem_cons.1 hn with e2 | e2
          · exact absurd e2.symm e
          · exact ih h2 e2
    · have : t.rs.filter (ofN n) = [] := by
        cases e : t.rs.filter (ofN n) with
        | nil => rfl
        | cons a r => exact absurd ((hm n).2 (by rw [e]; simp)) hn
      rw [this, List.flatMap_eq_nil_iff]
      intro b hb
      split <;> rfl
theorem tall_any {w : World} {p B : Nat} {F : Nat → Prop} {t : Tb} (h : TAt w p B F t) (hi : Inv t) (hl : t.rs.length ≤ 900) :
    Calls Try.prog 11 #[.pointer (some ⟨p, 0, none⟩)] w fun x w' => ∃ r, x = .returned r ∧ RowE rwE w' w.heap.size 48 r (allW t.rs) ∧ Below w.heap.size w w' := by
  obtain ⟨mo, g, h1, _⟩ := h
  refine (tall_core _ h1.rows (fun X hX => tkept_any (h1.below hX).cell) (t.rs.map Rw.name) (fun s hs => ?_) (by rw [List.length_map]; exact hl) (fun ks k1 k2 => ?_)).mono ?_
  · obtain ⟨r, hr⟩ := List.exists_mem_of_ne_nil _ ((h1.rows.isSome s).1 hs)
    obtain ⟨h2, h3⟩ := List.mem_filter.1 hr
    exact List.mem_map.2 ⟨r, h2, ofN_iff.1 h3⟩
  · rw [all_names hi k1 (fun s => by rw [k2 s, h1.rows.isSome s]), allW_len]
    exact hl
  · rintro e w' ⟨r, ks, rfl, k1, k2, k3, k4⟩
    refine ⟨r, rfl, ?_, k4⟩
    rw [← all_names hi k2 (fun s => by rw [k3 s, h1.rows.isSome s])]
    exact k1
theorem tall_nil (w : World) : Calls Try.prog 11 #[.pointer none] w fun x w' => ∃ zo zc, x = .returned (.slice zo 0 zc) ∧ Below w.heap.size w w' := by
  have hM : MapR w 0 none (fun _ => none) (fun _ => []) := ⟨Nat.zero_le _, .inl ⟨rfl, fun _ => rfl⟩, (fun s v e => by cases e), fun _ _ => rfl, (fun s s' v v' k e => by cases e)⟩
  refine (tall_core _ hM (fun X hX => tkept_nil X) [] (fun s hs => by cases hs) (by simp) (fun ks k1 k2 => by rw [List.flatMap_eq_nil_iff.2 (fun _ _ => rfl)]; simp)).mono ?_
  rintro e w' ⟨r, ks, rfl, k1, k2, k3, k4⟩
  have e : ks.flatMap (fun _ => ([] : List Rw)) = [] := by simp
  rw [e] at k1
  obtain ⟨ao, cap, hr⟩ := k1.sees.form
  exact ⟨ao, cap, by rw [hr]; rfl, k4⟩
end Go.Proofs.Ythjcmagionaepaa
