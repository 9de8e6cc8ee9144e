/- What a program's table is held to: one contract a function. -/
import Derived.Test.YthjcmagionaepaaGreatRUni
import Derived.Test.YthjcmagionaepaaGreatMRun
import Derived.Test.YthjcmagionaepaaGreatLCode
namespace Go.Proofs.YthjcmagionaepaaGreat
open Go.RowKit Kit
set_option linter.unusedVariables false

/-- An answer that is an error: none, or a number of api.Errno. -/
def errV (c : Int) : Value := if c = 0 then .nilIface else .iface 81 (.int .i64 c)
theorem addC_in (t : Tb) (name : ByteArray) (ino ep : Int) : addC t name ino ep = 0 ∨ addC t name ino ep = 1 ∨ addC t name ino ep = 6 := by
  rcases add_cases t name ino ep with ⟨h, _⟩ | ⟨h, _⟩ | ⟨h, _⟩ <;> rw [h] <;> simp
theorem remC_in (t : Tb) (name : ByteArray) (ep : Int) : remC t name ep = 0 ∨ remC t name ep = 1 ∨ remC t name ep = 5 := by
  rcases rem_cases t name ep with ⟨h, _⟩ | ⟨h, _⟩ | ⟨h, _⟩ <;> rw [h] <;> simp
theorem codeV_any (c : Int) (h : c = 0 ∨ c = 1 ∨ c = 5 ∨ c = 6) (w : World) : Calls Tryz.prog 24 #[errV c] w fun e w' => e = .returned (.int .i64 c) ∧ w' = w := by
  rcases h with rfl | rfl | rfl | rfl
  · exact code_nil w
  · exact code_num 1 w (by omega) (by omega)
  · exact code_num 5 w (by omega) (by omega)
  · exact code_num 6 w (by omega) (by omega)
/-- T w p B F t: at p the table t is shown; F: its blocks, from B on. -/
structure TabK (T : World → Nat → Nat → (Nat → Prop) → Tb → Prop) : Prop where
  below : ∀ {w w' : World} {p B : Nat} {F : Nat → Prop} {t : Tb}, T w p B F t → Below w.heap.size w w' → T w' p B F t
  lo : ∀ {w : World} {p B : Nat} {F : Nat → Prop} {t : Tb}, T w p B F t → ∀ k, F k → B ≤ k ∧ k < w.heap.size
  mono : ∀ {w : World} {p B C : Nat} {F : Nat → Prop} {t : Tb}, T w p B F t → C ≤ B → T w p C F t
  kind : ∀ {w : World} {p B : Nat} {F : Nat → Prop} {t : Tb}, T w p B F t → ∀ k, F k → ∀ cs ty, w.heap[k]? = some (.cells cs ty) → ty ≠ 30 ∧ ty ≠ 72
  stay : ∀ {w w' : World} {p B : Nat} {F G G' : Nat → Prop} {t : Tb}, T w p B F t → TurnF G G' w w' → (∀ k, F k → ¬ G k) → T w' p B F t
  new : ∀ w : World, Calls Tryz.prog 10 #[] w fun x w' => ∃ p F, x = .returned (.pointer (some ⟨p, 0, none⟩)) ∧ T w' p w.heap.size F tb0 ∧ Below w.heap.size w w'
  add : ∀ {w : World} {p B : Nat} {F : Nat → Prop} {t : Tb} (name : ByteArray) (ino ep : Int), T w p B F t → Inv t → t.rs.length ≤ 900 → name.size ≤ 2000 →
    Calls Tryz.prog 23 #[.pointer (some ⟨p, 0, none⟩), .string name, .int .i64 ino, .int .i64 ep] w fun x w' => x = .returned (errV (addC t name ino ep)) ∧ ∃ F', T w' p B F' (addT t name ino ep) ∧ TurnF F F' w w'
  rem : ∀ {w : World} {p B : Nat} {F : Nat → Prop} {t : Tb} (name : ByteArray) (ep : Int), T w p B F t → Inv t → t.rs.length ≤ 900 → name.size ≤ maxLen →
    Calls Tryz.prog 26 #[.pointer (some ⟨p, 0, none⟩), .string name, .int .i64 ep] w fun x w' => x = .returned (errV (remC t name ep)) ∧ ∃ F', T w' p B F' (remT t name ep) ∧ TurnF F F' w w'
  clean : ∀ {w : World} {p B : Nat} {F : Nat → Prop} {t : Tb} (v : Value) (es : List Int), T w p B F t → Inv t → t.rs.length ≤ 900 → Sees w v (iV es) → es.length ≤ 2000 →
    Calls Tryz.prog 21 #[.pointer (some ⟨p, 0, none⟩), v] w fun x w' => x = .returned (.int .i64 (cleanN t es)) ∧ ∃ F', T w' p B F' (cleanT t es) ∧ TurnF F F' w w'
  find : ∀ {w : World} {p B : Nat} {F : Nat → Prop} {t : Tb} (name : ByteArray) (ep : Int), T w p B F t → Inv t → t.rs.length ≤ 900 → name.size ≤ maxLen →
    Calls Tryz.prog 12 #[.pointer (some ⟨p, 0, none⟩), .string name, .int .i64 ep] w fun x w' => x = .returned (.tuple #[.int .i64 (foundI t.rs name ep), .bool (foundB t.rs name ep)]) ∧ Below w.heap.size w w'
  names : ∀ {w : World} {p B : Nat} {F : Nat → Prop} {t : Tb} (ep : Int), T w p B F t → Inv t → t.rs.length ≤ 900 →
    Calls Tryz.prog 15 #[.pointer (some ⟨p, 0, none⟩), .int .i64 ep] w fun x w' => ∃ r, x = .returned r ∧ Sees w' r (strs (heldN t.rs ep)) ∧ Below w.heap.size w w'
  all : ∀ {w : World} {p B : Nat} {F : Nat → Prop} {t : Tb}, T w p B F t → Inv t → t.rs.length ≤ 900 →
    Calls Tryz.prog 18 #[.pointer (some ⟨p, 0, none⟩)] w fun x w' => ∃ r, x = .returned r ∧ SeesE rwE w' r (allW t.rs) ∧ Below w.heap.size w w'
  last : ∀ {w : World} {p B : Nat} {F : Nat → Prop} {t : Tb}, T w p B F t →
    Calls Tryz.prog 20 #[.pointer (some ⟨p, 0, none⟩)] w fun x w' => x = .returned (.int .i64 t.last) ∧ Below w.heap.size w w'
variable {T : World → Nat → Nat → (Nat → Prop) → Tb → Prop}
theorem TabK.apart (K : TabK T) {w : World} {p q B C : Nat} {F : Nat → Prop} {sv : Value} {t t2 : Tb} (hp : T w p B F t) (hr : RTab w q C sv t2.last t2.rs) : ∀ k, tfoot q sv k → ¬ F k := by
  intro k hk hF
  obtain ⟨cs, ty, h1, h2⟩ := hr.obj k hk
  have h3 := K.kind hp k hF cs ty h1
  rcases h2 with rfl | rfl
  · exact h3.1 rfl
  · exact h3.2 rfl
def bfootT (F : Nat → Prop) (q : Nat) (sv : Value) (k : Nat) : Prop := F k ∨ tfoot q sv k
/-- The program's call, then the document's. -/
theorem TabK.both (K : TabK T) {w w1 w2 : World} {p q B C : Nat} {F F' : Nat → Prop} {sv sv' : Value} {t t' r r' : Tb} (hp : T w p B F t) (hr : RTab w q C sv r.last r.rs) (h1 : T w1 p B F' t') (t1 : TurnF F F' w w1) (h2 : RTab w2 q C sv' r'.last r'.rs) (t2 : TurnF (tfoot q sv) (tfoot q sv') w1 w2) :
    T w2 p B F' t' ∧ RTab w2 q C sv' r'.last r'.rs ∧ TurnF (bfootT F q sv) (bfootT F' q sv') w w2 := by
  have hr1 : RTab w1 q C sv r.last r.rs := hr.stay t1 (K.apart hp hr)
  have hap := K.apart h1 hr1
  exact ⟨K.stay h1 t2 (fun k hk e => hap k e hk), h2, (t1.wider (G := tfoot q sv)).trans (t2.widerR (G := F'))⟩
theorem TabK.mid (K : TabK T) {w w1 : World} {p q B C : Nat} {F F' : Nat → Prop} {sv : Value} {t r : Tb} (hp : T w p B F t) (hr : RTab w q C sv r.last r.rs) (t1 : TurnF F F' w w1) : RTab w1 q C sv r.last r.rs := hr.stay t1 (K.apart hp hr)
theorem rtab_lt {w : World} {q B : Nat} {sv : Value} {last : Int} {rs : List Rw} (h : RTab w q B sv last rs) : ∀ k, tfoot q sv k → k < w.heap.size := by
  intro k hk
  obtain ⟨cs, t, h1, _⟩ := h.obj k hk
  exact blk_lt h1
end Go.Proofs.YthjcmagionaepaaGreat
