/-
  The program's reader: what it has left lies in a block; 'at' and 'take' by contracts. Conditions: none.
-/
import Derived.Test.YtgkapipiegfmhaaDoorRefLike
import Derived.Test.YtgkapipiegfmhaaDoorParsePlain
namespace Go.Proofs.YtgkapipiegfmhaaDoor
open Go.RowKit

/-- The reader at block B has s left. -/
def RdAt (w : World) (B : Nat) (s : ByteArray) : Prop := w.heap[B]? = some (.cells #[.string s] 43 (0, 0))
theorem RdAt.lt {w : World} {B : Nat} {s : ByteArray} (h : RdAt w B s) : B < w.heap.size := (Array.getElem?_eq_some_iff.1 h).1
theorem RdAt.cell {w : World} {B : Nat} {s : ByteArray} (h : RdAt w B s) : w.cell? ⟨B, 0, none⟩ = some (.string s) := by
  unfold RdAt at h; simp [World.cell?, h]
theorem RdAt.frozen {w : World} {B : Nat} {s : ByteArray} (h : RdAt w B s) : w.frozen? ⟨B, 0, none⟩ = false := by
  unfold RdAt at h; simp [World.frozen?, h]
theorem RdAt.set {w : World} {B : Nat} {s : ByteArray} (h : RdAt w B s) (r : ByteArray) : RdAt (w.setCell ⟨B, 0, none⟩ (.string r)) B r := by
  unfold RdAt at h ⊢
  show (w.heap.modify B _)[B]? = _
  rw [Array.getElem?_modify, if_pos rfl, h]
  rfl
theorem RdAt.new (w : World) (s : ByteArray) : RdAt (w.alloc (.cells #[.string s] 43)) w.heap.size s := by
  show (w.heap.push (Obj.cells #[.string s] 43 (0, 0)))[w.heap.size]? = _; simp
theorem RdAt.kept {w w' : World} {B : Nat} {s : ByteArray} (h : RdAt w B s) (hb : w'.heap[B]? = w.heap[B]?) : RdAt w' B s := hb.trans h

/-- Blocks have come, and block B alone may have been written. -/
def Gone (B : Nat) (w w' : World) : Prop := w.grownBy w' (some B)
theorem Gone.refl (B : Nat) (w : World) : Gone B w w := ⟨rfl, rfl, rfl, Nat.le_refl _, fun _ _ _ => rfl⟩
theorem Gone.trans {B : Nat} {a b c : World} (h : Gone B a b) (k : Gone B b c) : Gone B a c :=
  ⟨k.os.trans h.os, k.tape.trans h.tape, k.output.trans h.output, Nat.le_trans h.size k.size, fun i hi hne => (k.block i (Nat.lt_of_lt_of_le hi h.size) hne).trans (h.block i hi hne)⟩
theorem Gone.set (B o : Nat) (w : World) (u : Value) : Gone B w (w.setCell ⟨B, o, none⟩ u) :=
  ⟨rfl, rfl, rfl, by simp [World.setCell], fun k _ hne => Below.heap_setCell _ _ _ _ (fun e => hne (by rw [e]))⟩
theorem Gone.below {B : Nat} {w w' : World} (h : Below w.heap.size w w') : Gone B w w' := ⟨h.os, h.tape, h.output, h.size, fun k hk _ => h.block k hk⟩
theorem Gone.to {B N : Nat} {w w' : World} (h : Gone B w w') (hN : N ≤ B) (hs : N ≤ w.heap.size) : Below N w w' :=
  ⟨h.os, h.tape, h.output, h.size, fun k hk => h.block k (by omega) (by simp; omega)⟩

theorem bytes_eq (a : ByteArray) (l : List UInt8) (h : a.data.toList = l) : a = ⟨l.toArray⟩ := by rw [← h]
/-- What is behind the first byte. -/
def restB (s : ByteArray) : ByteArray := s.extract 1 s.size
theorem restB_list (s : ByteArray) : (restB s).data.toList = s.data.toList.tail := by
  unfold restB
  rw [ByteArray.data_extract, Array.toList_extract]
  have hs : s.data.toList.length = s.size := (Lib.size_eq s).symm
  simp only [List.extract]
  rw [List.take_of_length_le (by rw [List.length_drop]; omega), List.drop_one]
theorem cons_of (s : ByteArray) (c : UInt8) (l : List UInt8) (h : s.data.toList = c :: l) : 0 < s.size ∧ ∀ h0 : 0 < s.size, s[0] = c := by
  have hs := Lib.size_eq s
  rw [h] at hs
  simp at hs
  refine ⟨by omega, fun h0 => ?_⟩
  rw [← get_list s 0 h0 (by rw [h]; simp)]
  simp [h]
theorem nil_of (s : ByteArray) (h : s.data.toList = []) : s = ⟨#[]⟩ := by
  have hs := Lib.size_eq s
  rw [h] at hs
  exact ByteArray.ext (Array.eq_empty_of_size_eq_zero hs)
theorem not_nil (s : ByteArray) (c : UInt8) (l : List UInt8) (h : s.data.toList = c :: l) : (s.toList == []) = false ∧ s.toList.isEmpty = false := by
  rw [Lib.toList_data, h]
  exact ⟨rfl, rfl⟩

/-- Is a mark next? -/
def headB (s : ByteArray) (c : UInt8) : Bool := s.data.toList.head? == some c

set_option maxRecDepth 100000 in
theorem at_any (B : Nat) (s : ByteArray) (c : UInt8) (k : Int) (hk : k = (c.toNat : Int)) (w : World) (h : RdAt w B s) :
    Calls Tryd.prog 21 #[.pointer (some ⟨B, 0, none⟩), .int .u8 k] w fun e w' => e = .returned (.bool (headB s c)) ∧ w' = w := by
  have hc := h.cell
  have hc8 := c.toNat_lt
  obtain ⟨l, hl⟩ : ∃ l, s.data.toList = l := ⟨_, rfl⟩
  cases l with
  | nil =>
    obtain rfl := nil_of s hl
    have HO := Lib.hid (show headB ⟨#[]⟩ c = false from rfl)
    clear hl hk hc8
    go_enter Tryd.func21, Tryd.ntmps21
    go_wp2_with fail
    go_ret
    exact ⟨by rw [HO.out]; rfl, rfl⟩
  | cons a l =>
    obtain ⟨h0, ha⟩ := cons_of s a l hl
    obtain ⟨e1, e2⟩ := not_nil s a l hl
    have hx : s[0] = a := ha h0
    have hq : ((a.toNat : Int) == k) = headB s c := by
      unfold headB
      rw [hl, hk, Bool.eq_iff_iff, beq_iff_eq, beq_iff_eq, List.head?_cons, Option.some.injEq, ← UInt8.toNat_inj]
      omega
    obtain ⟨b, hb⟩ : ∃ b, headB s c = b := ⟨_, rfl⟩
    rw [hb] at hq ⊢
    clear hl hk hc8 ha hb
    go_enter Tryd.func21, Tryd.ntmps21
    go_wp2_with fail
    go_ret
    exact ⟨rfl, rfl⟩

/-- What a refusal is. -/
def stop (k : Int) : Ending := .panicked [{ v := .iface 26 (.int .i64 k), recovered := false }]

set_option maxRecDepth 100000 in
theorem take_any (B : Nat) (s : ByteArray) (c : UInt8) (k : Int) (hk : k = (c.toNat : Int)) (w : World) (h : RdAt w B s) :
    Calls Tryd.prog 29 #[.pointer (some ⟨B, 0, none⟩), .int .u8 k] w fun e w' =>
      if headB s c then e = .returned (.tuple #[]) ∧ w' = w.setCell ⟨B, 0, none⟩ (.string (restB s)) else e = stop 6 ∧ w' = w := by
  have hc := h.cell
  have hz := h.frozen
  have C := Lib.hid (at_any B s c k hk w h)
  cases hb : headB s c with
  | false =>
    rw [hb] at C
    simp only [Bool.false_eq_true, if_false]
    clear hk hb
    go_enter Tryd.func29, Tryd.ntmps29
    go_wp2_with fail
    refine C.out.mono ?_
    rintro e w1 ⟨rfl, rfl⟩
    go_wp2_with fail
    exact ⟨rfl, rfl, rfl⟩
  | true =>
    rw [hb] at C
    simp only [if_true]
    have h1 : (1 : Int) ≤ (s.size : Int) := by
      unfold headB at hb
      cases hl : s.data.toList with
      | nil => rw [hl] at hb; cases hb
      | cons a l => have := (cons_of s a l hl).1; omega
    clear hk hb
    go_enter Tryd.func29, Tryd.ntmps29
    go_wp2_with fail
    refine C.out.mono ?_
    rintro e w1 ⟨rfl, rfl⟩
    go_wp2_with fail
    go_end0
    exact ⟨rfl, rfl⟩
end Go.Proofs.YtgkapipiegfmhaaDoor
