/- An error is no deeper than it has errors within it; what is told of its first Fault. -/
import Derived.Test.YtlandjnhhcnbeaaDoorMoldArg
namespace Go.Proofs.YtlandjnhhcnbeaaDoor
open Go.RowKit Kit
set_option linter.unusedVariables false

theorem Pre.tight {w : World} : ∀ {f : Nat} {v : Value} {ns : List Nd}, Pre w f v ns → Pre w ns.length v ns
  | 0, v, ns, h => by obtain ⟨rfl, rfl⟩ := h; exact ⟨rfl, rfl⟩
  | f + 1, v, ns, h => by
    rcases h with h | ⟨m, h, hm⟩ | ⟨b, s', h, h2, hm⟩ | ⟨b, op, path, e, ms', h, h2, h3, h4, h9, h5, h6, hm⟩ | ⟨b, x1, x2, m1, m2, h, h3, h4, h5, h6, h7, h8, hm⟩
    · obtain ⟨rfl, rfl⟩ := h; exact ⟨rfl, rfl⟩
    · subst h hm; exact pre_num w 0 m
    · subst h hm; exact pre_leaf 0 b h2
    · subst h hm; exact pre_fault h2 h3 h4 h9.1 h9.2 h5 (Pre.tight h6)
    · subst h hm
      rw [List.length_cons, List.length_append]
      exact pre_pair h3 h4 h5 h6 ((Pre.tight h7).mono (by omega)) ((Pre.tight h8).mono (by omega))
theorem Pre.small {w : World} {f : Nat} {v : Value} {ns : List Nd} (h : Pre w f v ns) {op path : ByteArray} {l : List (ByteArray × ByteArray)} (hc : chainOf ns = (op, path) :: l) : op.size ≤ 1000 ∧ path.size ≤ 1000 := by
  rcases hh : firstOf 54 ns with _ | y
  · rw [chainOf_none ns hh] at hc; cases hc
  · obtain ⟨b, op', path', e, ms, k, _, _, _, _, hs, _, _, _, h9⟩ := Pre.fault h hh
    rw [h9] at hc
    cases hc
    exact hs
theorem Pre.bare {w : World} {f : Nat} {v : Value} {ns : List Nd} (h : Pre w f v ns) (hc : chainOf ns = []) : firstOf 54 ns = none := by
  rcases hh : firstOf 54 ns with _ | y
  · rfl
  · obtain ⟨b, op', path', e, ms, k, _, _, _, _, hs, _, _, _, h9⟩ := Pre.fault h hh
    rw [h9] at hc
    cases hc
theorem nodes_bulk : ∀ (n : Nat) (t : Tr n), (nodesT n t).length ≤ bulk n t
  | 0, _ => by simp [nodesT]
  | _ + 1, none => by simp [nodesT]
  | n + 1, some (l, x, y) => by
    have hx := nodes_bulk n x
    have hy := nodes_bulk n y
    rw [nodesT_some]
    show _ ≤ 1 + l.op.size + l.path.size + bulk n x + bulk n y
    split
    · simp; omega
    split
    · unfold faultS
      split
      · simp
      · simp; omega
    split
    · unfold bothS
      split
      · omega
      split
      · omega
      · simp; omega
    split
    · simp; omega
    · simp
/-- Is the number among these? -/
def among (z : Int) (ms : List Int) : Bool := ms.any fun m => m == z
theorem hit_among (z : Int) (ns : List Nd) : hit z ns = among z (nums ns) := by
  unfold hit among
  rcases h : (nums ns).any fun m => m == z with _ | _
  · rw [List.any_eq_false] at h
    have : ¬ z ∈ nums ns := fun hm => h z hm (by simp)
    simpa using this
  · rw [List.any_eq_true] at h
    obtain ⟨m, hm, he⟩ := h
    have : m = z := by simpa using he
    subst this
    simpa using hm
def isUpTo (ms zs : List Int) (k : Nat) : Bool := (zs.take k).any fun z => among z ms
def isPart (z : Int) (ms : List Int) (b : Bool) (k : Nat) : Bool := b || (ms.take k).any fun m => m == z
theorem isPart_step (z : Int) (ms : List Int) (b : Bool) (k : Nat) (h : k < ms.length) : isPart z ms b (k + 1) = (isPart z ms b k || (ms.getD k 0 == z)) := by
  unfold isPart
  rw [List.take_add_one, List.getElem?_eq_getElem h, List.any_append]
  simp [List.getD, h, Bool.or_assoc]
theorem isPart_all (z : Int) (ms : List Int) (b : Bool) : isPart z ms b ms.length = (b || among z ms) := by
  unfold isPart among
  rw [List.take_length]
theorem isUpTo_step (ms zs : List Int) (k : Nat) (h : k < zs.length) : isUpTo ms zs (k + 1) = (isUpTo ms zs k || among (zs.getD k 0) ms) := by
  unfold isUpTo
  rw [List.take_add_one, List.getElem?_eq_getElem h, List.any_append]
  simp [List.getD, h]
theorem isUpTo_all (ms zs : List Int) : isUpTo ms zs zs.length = zs.any fun z => among z ms := by
  unfold isUpTo
  rw [List.take_length]
theorem take_map_step (zs : List Int) (k : Nat) (h : k < zs.length) : ((zs.take (k + 1)).map (Value.int .i64)) = (zs.take k).map (Value.int .i64) ++ [.int .i64 (zs.getD k 0)] := by
  rw [List.take_add_one, List.getElem?_eq_getElem h, List.map_append]
  congr 1
  simp [List.getD, h]
theorem empty_add : ((⟨#[]⟩ : ByteArray) ++ ⟨#[]⟩) = ⟨#[]⟩ := by decide
theorem infoE : (Tryd.prog.info? 39).map (fun i => (i.zero, i.size, i.bytes)) = some (some (.int .i64 0), 1, 8) := by kernel_rfl
end Go.Proofs.YtlandjnhhcnbeaaDoor
