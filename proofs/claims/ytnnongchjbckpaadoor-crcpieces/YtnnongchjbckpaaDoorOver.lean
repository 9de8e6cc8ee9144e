/- Rows put over each other: lists; a set of worlds for a region that draws; what the law CrcAdds needs beside the contracts. -/
import Derived.Test.YtnnongchjbckpaaDoorAwake
import Derived.Test.YtnnongchjbckpaaDoorLay
import Derived.Deep.Quiet
namespace Go.Proofs.YtnnongchjbckpaaDoor
open Go.ChangeShapes Go.WideShapes Go.ChangeAt Go.RowKit Kit
set_option linter.unusedVariables false

theorem over3_len : ∀ (l m n : List Nat), l.length = m.length → m.length = n.length → (over3 l m n).length = l.length
  | [], [], [], _, _ => rfl
  | a :: l, b :: m, c :: n, h1, h2 => by simp [over3, over3_len l m n (by simpa using h1) (by simpa using h2)]
theorem over3_get : ∀ (l m n : List Nat) (k : Nat), l.length = m.length → m.length = n.length → k < l.length → (over3 l m n).getD k 0 = l.getD k 0 ^^^ m.getD k 0 ^^^ n.getD k 0
  | a :: l, b :: m, c :: n, 0, _, _, _ => by simp [over3]
  | a :: l, b :: m, c :: n, k + 1, h1, h2, h => by
    have := over3_get l m n k (by simpa using h1) (by simpa using h2) (by simpa using h)
    simpa [over3] using this
theorem getD_map_of {α β : Type} (f : α → β) (l : List α) (k : Nat) (d : α) : (l.map f).getD k (f d) = f (l.getD k d) := by
  simp only [List.getD, List.getElem?_map]
  cases l[k]? <;> rfl
/-- As Int. -/
def ovI (la lb lc : List Int) : List Int := (over3 (natB la) (natB lb) (natB lc)).map fun (b : Nat) => (b : Int)
theorem natB_len (l : List Int) : (natB l).length = l.length := by simp [natB]
theorem natB_getD (l : List Int) (k : Nat) : (natB l).getD k 0 = (l.getD k 0).toNat := by
  unfold natB
  exact getD_map_of Int.toNat l k 0
theorem ovI_len (la lb lc : List Int) (h1 : la.length = lb.length) (h2 : lb.length = lc.length) : (ovI la lb lc).length = la.length := by
  unfold ovI
  rw [List.length_map, over3_len _ _ _ (by simp [natB_len, h1]) (by simp [natB_len, h2]), natB_len]
theorem ovI_nat (la lb lc : List Int) : natB (ovI la lb lc) = over3 (natB la) (natB lb) (natB lc) := by
  unfold ovI natB
  rw [List.map_map]
  conv => rhs; rw [← List.map_id (over3 _ _ _)]
  exact List.map_congr_left fun b hb => by simp
theorem xor_u8 (a b : Int) (a0 : 0 ≤ a) (a1 : a < 256) (b0 : 0 ≤ b) (b1 : b < 256) : bits .xor .u8 a b = ((a.toNat ^^^ b.toNat : Nat) : Int) := u8_xor a b a0 a1 b0 b1
theorem ovI_at (la lb lc : List Int) (h1 : la.length = lb.length) (h2 : lb.length = lc.length) (k : Nat) (hk : k < la.length) (ia : bytesIn la) (ib : bytesIn lb) (ic : bytesIn lc) :
    bits .xor .u8 (bits .xor .u8 (la.getD k 0) (lb.getD k 0)) (lc.getD k 0) = (ovI la lb lc).getD k 0 := by
  have ha := bytesIn_get ia hk
  have hb := bytesIn_get ib (i := k) (by omega)
  have hc := bytesIn_get ic (i := k) (by omega)
  have hx : (la.getD k 0).toNat ^^^ (lb.getD k 0).toNat < 2 ^ 8 := xor_lt (by omega) (by omega)
  rw [xor_u8 _ _ ha.1 ha.2 hb.1 hb.2, xor_u8 _ _ (by omega) (by omega) hc.1 hc.2]
  have e : (ovI la lb lc).getD k 0 = (((over3 (natB la) (natB lb) (natB lc)).getD k 0 : Nat) : Int) := by
    unfold ovI
    exact getD_map_of (fun (b : Nat) => (b : Int)) _ k 0
  rw [e, over3_get _ _ _ k (by simp [natB_len, h1]) (by simp [natB_len, h2]) (by simp [natB_len, hk]), natB_getD, natB_getD, natB_getD]
  simp
theorem ovI_in (la lb lc : List Int) (h1 : la.length = lb.length) (h2 : lb.length = lc.length) (ia : bytesIn la) (ib : bytesIn lb) (ic : bytesIn lc) : bytesIn (ovI la lb lc) := by
  intro z hz
  obtain ⟨k, hk, rfl⟩ := List.mem_iff_getElem.1 hz
  have hl := ovI_len la lb lc h1 h2
  have e := ovI_at la lb lc h1 h2 k (by omega) ia ib ic
  have e2 : (ovI la lb lc)[k] = (ovI la lb lc).getD k 0 := by simp [List.getD, hk]
  have ha := bytesIn_get ia (i := k) (by omega)
  have hb := bytesIn_get ib (i := k) (by omega)
  have hc := bytesIn_get ic (i := k) (by omega)
  have hx : (la.getD k 0).toNat ^^^ (lb.getD k 0).toNat < 2 ^ 8 := xor_lt (by omega) (by omega)
  have hy : ((la.getD k 0).toNat ^^^ (lb.getD k 0).toNat) ^^^ (lc.getD k 0).toNat < 2 ^ 8 := xor_lt hx (by omega)
  rw [xor_u8 _ _ ha.1 ha.2 hb.1 hb.2, xor_u8 _ _ (by omega) (by omega) hc.1 hc.2] at e
  simp only [Int.toNat_natCast] at e
  rw [e2, ← e]
  omega
/-- A row that is filled from the front. -/
def part (L : List Int) (k : Nat) : List Int := L.take k ++ List.replicate (L.length - k) 0
theorem part_len (L : List Int) (k : Nat) (h : k ≤ L.length) : (part L k).length = L.length := by simp [part]; omega
theorem part_set (L : List Int) (k : Nat) (h : k < L.length) : (part L k).set k (L.getD k 0) = part L (k + 1) := by
  unfold part
  rw [List.set_append_right _ _ (by simp; omega)]
  have e1 : k - (L.take k).length = 0 := by simp; omega
  rw [e1, show L.length - k = (L.length - (k + 1)) + 1 by omega, List.replicate_succ, List.set_cons_zero]
  conv => rhs; rw [List.take_succ_eq_append_getElem h, List.append_assoc]
  simp [List.getD, h]
theorem part_all (L : List Int) : part L L.length = L := by simp [part]
theorem part_zero (L : List Int) : part L 0 = List.replicate L.length 0 := by simp [part]

theorem made_bytes {w : World} {base g n : Nat} (h : w.ownsRow base 5 1 (.slice (some ⟨g, 0, none⟩) n n) n (madeCells (Value.int .u8 0).cells (n * 1)).toList) : Row w base .u8 5 (.slice (some ⟨g, 0, none⟩) n n) (List.replicate n 0) := by
  unfold Row
  have e : (madeCells (Value.int .u8 0).cells (n * 1)).toList = List.replicate n (Value.int .u8 0) := by
    rw [Nat.mul_one]; exact toList_madeCells_one (.int .u8 0) n
  rw [e] at h
  simpa using h
theorem view_cut {B : Nat} {w : World} {k : IntKind} {a : Option Addr} {len cap : Nat} {zs : List Int} (h : Vw B w k (.slice a len cap) zs) (n : Nat) (hn : n ≤ zs.length) : Vw B w k (.slice a n cap) (zs.take n) := by
  rcases h with ⟨rfl, ao, c, he, h1, h2⟩ | ⟨hz, b, off, c, he, h1, h2, h3, h4⟩
  · simp at hn
    subst hn
    simp only [Value.slice.injEq] at he
    obtain ⟨rfl, -, rfl⟩ := he
    exact .inl ⟨by simp, _, _, rfl, h1, h2⟩
  · have he2 := he
    simp only [Value.slice.injEq] at he2
    obtain ⟨rfl, rfl, rfl⟩ := he2
    exact Vw.cut (.inr ⟨hz, b, off, _, rfl, h1, h2, h3, h4⟩) n hn

/-! A set of worlds: what lies below stays. -/
def OwnW (w : World) : Type := { w' : World // Below w.heap.size w w' }
theorem wp_region_own {P : Program} {id : Nat} {Q : Exit → Act → World → Prop} {a : Act} {w : World} {l : List Oper} (hm : P.follows .mixedOrders = true) (hB : Region.lexB .any l.toArray = true)
    (h : wpQuiet P l.toArray (fun w' => ∃ n : OwnW w, w' = n.1) (fun a' => ∀ w', (∃ n : OwnW w, w' = n.1) → Q .normal a' w') l a) : (Code.region id l.toArray true).wp P Q a w :=
  wp_region_quiet (C := fun w' => ∃ n : OwnW w, w' = n.1) hm hB ⟨⟨_, (Below.refl w.heap.size w).drew⟩, rfl⟩ (by simpa using h)
theorem Calls.own_of {P : Program} {f : FuncId} {args : Array Value} {w : World} {n : OwnW w} {v : Value} (h : Calls P f args n.1 fun e w' => e = .returned v ∧ Below n.1.heap.size n.1 w') :
    Calls P f args n.1 fun e w'' => e = .returned v ∧ ∃ m : OwnW w, w'' = m.1 :=
  h.mono fun _ w'' ⟨he, hb⟩ => ⟨he, ⟨w'', bel2 n.2 hb⟩, rfl⟩
theorem ownW_nonempty (w : World) : Nonempty (OwnW w) := ⟨⟨w, Below.refl _ _⟩⟩
end Go.Proofs.YtnnongchjbckpaaDoor
