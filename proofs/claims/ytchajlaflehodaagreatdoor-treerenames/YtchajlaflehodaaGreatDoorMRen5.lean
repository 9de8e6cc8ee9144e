/- What is found behind a rename. (No walk of the program in it.) -/
import Derived.Test.YtchajlaflehodaaGreatDoorG4
import Derived.Test.YtchajlaflehodaaGreatDoorG2
namespace Go.Proofs.YtchajlaflehodaaGreatDoor
open Go.RowKit Kit
set_option linter.unusedVariables false

theorem nameB_not {n : NodeB} {q : ByteArray} (h : q ∉ n.names) : nameB n q = 0 := by
  unfold nameB
  split
  · have : (n.names.findIdx? fun r => decide (r = q)) = none := by
      rw [List.findIdx?_eq_none_iff]
      intro r hr
      simp
      intro e
      subst e
      exact h hr
    rw [this]
  · rfl
theorem without_not {n : NodeB} (ok : NodeOK n) {s q : ByteArray} (h : q ∉ n.names ∨ q = s) : q ∉ (withoutB n s).names := by
  rw [show (withoutB n s).names = n.names.filter (fun q => decide (q ≠ s)) from names_without_keep _ _ s ok.len]
  intro hm
  obtain ⟨h1, h2⟩ := List.mem_filter.1 hm
  rcases h with h | h
  · exact h h1
  · simp [h] at h2
theorem with_not {n : NodeB} {s q : ByteArray} {a : Int} (h : q ∉ n.names) (hq : q ≠ s) : q ∉ (withB n s a).names := by
  unfold withB
  simp only
  intro hm
  rcases List.mem_append.1 hm with h1 | h1
  · exact h (List.mem_of_mem_take h1)
  · rcases List.mem_cons.1 h1 with h2 | h2
    · exact hq h2
    · exact h (List.mem_of_mem_drop h2)
/-- A walk goes the same way in another tree, if each step of it does. -/
theorem walk_keep {t x : TreeB} (ht : Fair t) (hx : Fair x) : ∀ (l : List ByteArray) (k k2 p : Nat), k < t.nodes.length → k2 < x.nodes.length → (nodeAt x k2).ino = (nodeAt t k).ino → walkB t k l = .ok p →
    (∀ l1 s l2 y, l = l1 ++ s :: l2 → walkB t k l1 = .ok y → y < t.nodes.length → nameB (nodeAt t y) s ≠ 0 → (nodeAt t y).kind = 2 → ∃ y2, y2 < x.nodes.length ∧ (nodeAt x y2).ino = (nodeAt t y).ino ∧ (nodeAt x y2).kind = 2 ∧ nameB (nodeAt x y2) s = nameB (nodeAt t y) s) →
    ∃ p2, walkB x k2 l = .ok p2 ∧ p2 < x.nodes.length ∧ (nodeAt x p2).ino = (nodeAt t p).ino
  | [], k, k2, p, hk, hk2, e, hw, _ => by
    rw [walkB] at hw
    injection hw with hw
    subst hw
    exact ⟨k2, rfl, hk2, e⟩
  | s :: r, k, k2, p, hk, hk2, e, hw, H => by
    rw [walkB] at hw
    split at hw
    · cases hw
    · rename_i hkd
      have hkd : (nodeAt t k).kind = 2 := Decidable.byContradiction hkd
      split at hw
      · cases hw
      · rename_i hn
        obtain ⟨k', p1, p2, p3, p4⟩ := ht.step hk hn
        rw [p1] at hw
        simp only [Option.getD_some] at hw
        obtain ⟨m2, q1, q2, q3, q5⟩ := H [] s r k rfl rfl hk hn hkd
        have em : m2 = k2 := rises_inj hx.rise q1 hk2 (q2.trans e.symm)
        subst em
        obtain ⟨x', r1, r2', r3, _⟩ := hx.step hk2 (s := s) (by rw [q5]; exact hn)
        obtain ⟨pp, t1, t2, t3⟩ := walk_keep ht hx r k' x' p p2 r2' (by rw [r3, p3, q5]) hw (fun l1 s1 l2 y el hy hyl hyn hyk => by
          refine H (s :: l1) s1 l2 y (by rw [el]; rfl) ?_ hyl hyn hyk
          rw [walkB, if_neg (by omega), if_neg hn, p1]
          exact hy)
        refine ⟨pp, ?_, t2, t3⟩
        rw [walkB, if_neg (by omega), if_neg (by rw [q5]; exact hn), r1]
        exact t1
/-- The tree whose name is gone ahead of a move. -/
structure Gone (t x : TreeB) (d : Nat) (s : ByteArray) (T : Int) : Prop where
  fair : Fair x
  len : x.nodes.length = t.nodes.length
  ino : ∀ j, (nodeAt x j).ino = (nodeAt t j).ino
  kind : ∀ j, (nodeAt x j).kind = (nodeAt t j).kind
  free : s ∉ (nodeAt x d).names
  name : ∀ j q, ¬ (j = d ∧ q = s) → nameB (nodeAt t j) q ≠ 0 → nameB (nodeAt x j) q = nameB (nodeAt t j) q
  kids : ∀ i, i ≠ T → kidsB x i = kidsB t i
  few : (nodeAt x d).names.length ≤ (nodeAt t d).names.length
theorem gone_none {t : TreeB} (hG : Good t) {d : Nat} (hd : d < t.nodes.length) (hdk : (nodeAt t d).kind = 2) {s : ByteArray} (h : nameB (nodeAt t d) s = 0) : Gone t t d s 0 :=
  ⟨hG.e.fair, rfl, fun _ => rfl, fun _ => rfl, name_free hG.e hd hdk h, fun _ _ _ _ => rfl, fun _ _ => rfl, Nat.le_refl _⟩
theorem gone_there {t : TreeB} (hG : Good t) {d : Nat} (hd : d < t.nodes.length) (hdk : (nodeAt t d).kind = 2) {s : ByteArray} {T : Int} (h : nameB (nodeAt t d) s = T) (hT : T ≠ 0) : Gone t (setB t d (withoutB (nodeAt t d) s)) d s T := by
  have ht := hG.e.fair
  have ok := ht.each _ (nodeAt_mem hd)
  have hat : ∀ j, nodeAt (setB t d (withoutB (nodeAt t d) s)) j = if j = d then withoutB (nodeAt t d) s else nodeAt t j := fun j => by
    by_cases e : j = d
    · subst e; rw [set_at hd, if_pos rfl]
    · rw [set_at_ne (fun x => e x.symm), if_neg e]
  refine ⟨fair_without ht hd hdk s, set_len _ _ _, fun j => ?_, fun j => ?_, ?_, fun j q hjq hn => ?_, fun i hi => ?_, ?_⟩
  · rw [hat]; split
    · rename_i e; subst e; rfl
    · rfl
  · rw [hat]; split
    · rename_i e; subst e; rfl
    · rfl
  · rw [set_at hd]; exact without_not ok (.inr rfl)
  · rw [hat]; split
    · rename_i e; subst e
      exact without_name ok hdk (fun e => hjq ⟨rfl, e⟩) hn
    · rfl
  · have := kids_unname ht hd (s := s) (by rw [h]; exact hT) i
    rw [h, if_neg (fun e => hi e.symm)] at this
    omega
  · rw [set_at hd]; exact without_len s
/-- The names behind a move. -/
theorem moved_facts {t x : TreeB} (hG : Good t) {p d : Nat} (hp : p < t.nodes.length) (hd : d < t.nodes.length) (hpk : (nodeAt t p).kind = 2) (hdk : (nodeAt t d).kind = 2) {s old : ByteArray} {I T : Int}
    (hI : nameB (nodeAt t p) old = I) (hI0 : I ≠ 0) (ho : okB s = true ∧ s.size ≤ 12) (hne : ¬ (p = d ∧ old = s)) (hx : Gone t x d s T) :
    Fair (movedB x p old d s I) ∧ (movedB x p old d s I).nodes.length = t.nodes.length ∧ (∀ j, (nodeAt (movedB x p old d s I) j).ino = (nodeAt t j).ino ∧ (nodeAt (movedB x p old d s I) j).kind = (nodeAt t j).kind) ∧
    nameB (nodeAt (movedB x p old d s I) d) s = I ∧ nameB (nodeAt (movedB x p old d s I) p) old = 0 ∧ (∀ j q, ¬ (j = d ∧ q = s) → ¬ (j = p ∧ q = old) → nameB (nodeAt t j) q ≠ 0 → nameB (nodeAt (movedB x p old d s I) j) q = nameB (nodeAt t j) q) ∧ (∀ i, i ≠ T → kidsB (movedB x p old d s I) i = kidsB t i) ∧
    (∀ j, j ≠ p → j ≠ d → nodeAt (movedB x p old d s I) j = nodeAt x j) := by
  have hpx : p < x.nodes.length := by rw [hx.len]; exact hp
  have hdx : d < x.nodes.length := by rw [hx.len]; exact hd
  have hkp : (nodeAt x p).kind = 2 := by rw [hx.kind]; exact hpk
  have hIx : nameB (nodeAt x p) old = I := by rw [hx.name p old hne (by rw [hI]; exact hI0)]; exact hI
  have okp := hx.fair.each _ (nodeAt_mem hpx)
  obtain ⟨x1, hx1⟩ : ∃ z, z = setB x p (withoutB (nodeAt x p) old) := ⟨_, rfl⟩
  have f1 : Fair x1 := by rw [hx1]; exact fair_without hx.fair hpx hkp old
  have l1 : x1.nodes.length = t.nodes.length := by rw [hx1, set_len, hx.len]
  have hat1 : ∀ j, nodeAt x1 j = if j = p then withoutB (nodeAt x p) old else nodeAt x j := fun j => by
    rw [hx1]
    by_cases e : j = p
    · subst e; rw [set_at hpx, if_pos rfl]
    · rw [set_at_ne (fun x => e x.symm), if_neg e]
  have hi1 : ∀ j, (nodeAt x1 j).ino = (nodeAt t j).ino ∧ (nodeAt x1 j).kind = (nodeAt t j).kind := fun j => by
    rw [hat1]; split
    · rename_i e; subst e; exact ⟨hx.ino _, hx.kind _⟩
    · exact ⟨hx.ino _, hx.kind _⟩
  have hdx1 : d < x1.nodes.length := by rw [l1]; exact hd
  have hkd1 : (nodeAt x1 d).kind = 2 := by rw [(hi1 d).2]; exact hdk
  have hfree : s ∉ (nodeAt x1 d).names := by
    rw [hat1]; split
    · rename_i e; subst e; exact without_not okp (.inl hx.free)
    · exact hx.free
  have okd := f1.each _ (nodeAt_mem hdx1)
  have hold : old ∉ (nodeAt x1 p).names := by rw [hat1, if_pos rfl]; exact without_not okp (.inr rfl)
  have hname1 : ∀ j q, ¬ (j = d ∧ q = s) → ¬ (j = p ∧ q = old) → nameB (nodeAt t j) q ≠ 0 → nameB (nodeAt x1 j) q = nameB (nodeAt t j) q := fun j q h1 h2 hn => by
    have e1 := hx.name j q h1 hn
    rw [hat1]; split
    · rename_i e; subst e
      rw [without_name okp hkp (fun e => h2 ⟨rfl, e⟩) (by rw [e1]; exact hn), e1]
    · exact e1
  have hfew : (nodeAt x1 d).names.length < 10000 := by
    have h0 := small_names hG hd
    have h1 := hx.few
    rw [hat1]; split
    · rename_i e; subst e
      have := without_len (n := nodeAt x d) old
      omega
    · omega
  have hm : movedB x p old d s I = setB x1 d (withB (nodeAt x1 d) s I) := by rw [hx1]; rfl
  have hlead : I ≠ 1 ∧ ∃ m ∈ x1.nodes, m.ino = I := by
    obtain ⟨k', q1, q2, q3, q4⟩ := hG.e.fair.step hp (s := old) (by rw [hI]; exact hI0)
    rw [hI] at q3 q4
    refine ⟨q4, nodeAt x1 k', nodeAt_mem (by rw [l1]; exact q2), ?_⟩
    rw [(hi1 k').1, q3]
  have hat2 : ∀ j, nodeAt (movedB x p old d s I) j = if j = d then withB (nodeAt x1 d) s I else nodeAt x1 j := fun j => by
    rw [hm]
    by_cases e : j = d
    · subst e; rw [set_at hdx1, if_pos rfl]
    · rw [set_at_ne (fun x => e x.symm), if_neg e]
  refine ⟨?_, ?_, fun j => ?_, ?_, ?_, fun j q h1 h2 hn => ?_, fun i hi => ?_, fun j h1 h2 => ?_⟩
  · rw [hm]; exact fair_with f1 hdx1 hkd1 hfree ho hlead hfew
  · rw [hm, set_len, l1]
  · rw [hat2]; split
    · rename_i e; subst e; exact hi1 _
    · exact hi1 _
  · rw [hat2, if_pos rfl]; exact with_name_self okd hkd1 hfree ho I
  · rw [hat2]; split
    · rename_i e; subst e
      exact nameB_not (with_not hold (fun e => hne ⟨rfl, e⟩))
    · exact nameB_not hold
  · rw [hat2]; split
    · rename_i e; subst e
      rw [with_name_ne okd hkd1 hfree ho (fun e => h1 ⟨rfl, e⟩) I (by rw [hname1 _ _ h1 h2 hn]; exact hn)]
      exact hname1 _ _ h1 h2 hn
    · exact hname1 _ _ h1 h2 hn
  · rw [hm, kids_with hdx1 s I i]
    have := kids_unname hx.fair hpx (s := old) (by rw [hIx]; exact hI0) i
    rw [hIx, ← hx1] at this
    rw [← hx.kids i hi]
    exact this
  · rw [hat2, if_neg h2, hat1, if_neg h1]
/-- Who stays when what has no name is swept. -/
theorem swept_stays {t y : TreeB} (hG : Good t) (hy : Fair y) (hlen : y.nodes.length = t.nodes.length) (hino : ∀ j, (nodeAt y j).ino = (nodeAt t j).ino) {T : Int} (hk : ∀ i, i ≠ T → kidsB y i = kidsB t i) (hs : Fair (sweptB y)) {j : Nat} (hj : j < t.nodes.length) (hjT : (nodeAt t j).ino ≠ T) :
    ∃ j2, j2 < (sweptB y).nodes.length ∧ nodeAt (sweptB y) j2 = nodeAt y j := by
  have hjy : j < y.nodes.length := by omega
  have hm : nodeAt y j ∈ (sweptB y).nodes := by
    unfold sweptB
    refine List.mem_filter.2 ⟨nodeAt_mem hjy, decide_eq_true ?_⟩
    rw [hy.links (nodeAt_mem hjy)]
    unfold linksD
    split
    · omega
    · rename_i h1
      rw [hino j] at h1 ⊢
      rw [hk _ hjT]
      exact hG.2 _ (nodeAt_mem hj) h1
  exact place_of hs.rise hm
end Go.Proofs.YtchajlaflehodaaGreatDoor
