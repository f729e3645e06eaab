/-
  The document's own Less and Word, by contracts. Conditions: none.
  The document's own Like, by a contract. Conditions: what comes in reads as trees.
  The program's reader: what it has left lies in a block; 'at' and 'take' by contracts. Conditions: none.
  What the walks of package text want of the package-level variables, kept by what follows; strconv.Itoa and Atoi by contracts over it. Conditions: none.
  The program's reader: a word and a number, by contracts. Conditions: the package-level variables as TEnv says.
  Values that the reader makes: trees that lie in blocks of a set, and rows of them that are being made. Conditions: none.
-/
import Derived.Test.YtepcaglekgeamaaGreatDoorYTxt0
import Derived.WalkKit
import Derived.WalkLawsBesides
import Derived.WalkSpells
import Derived.BigCall
import Derived.Lib.Hide
import Derived.Outline
import Derived.BigQuiet
import Derived.Deep.QuietTactic
import Derived.Lib.Strings
import Derived.Lib.IndexBytes
import Derived.StillTailTactics
import Derived.Test.YtepcaglekgeamaaGreatDoorYShelf
import Derived.Lib.AtoiErrMem
import Derived.Shelf.Strings.SlTrimAscii
import Derived.Shelf.Strings.Prefix
import Derived.Deep.AppendLies
namespace Go.Proofs.YtepcaglekgeamaaGreatDoor
open Go.RowKit

theorem lessL_drop : ∀ (k : Nat) (a b : List UInt8) (ha : k < a.length) (hb : k < b.length), lessL (a.drop k) (b.drop k) = if a[k] = b[k] then lessL (a.drop (k + 1)) (b.drop (k + 1)) else decide (a[k].toNat < b[k].toNat)
  | 0, x :: a, y :: b, _, _ => by simp only [List.drop_zero, List.drop_succ_cons]; rw [lessL]; rfl
  | k + 1, x :: a, y :: b, ha, hb => by
    simp only [List.drop_succ_cons]
    exact lessL_drop k a b (by simpa using ha) (by simpa using hb)

theorem lessL_end (k : Nat) (a b : List UInt8) (h : ¬ (k < a.length ∧ k < b.length)) (ha : k ≤ a.length) (hb : k ≤ b.length) : lessL (a.drop k) (b.drop k) = decide (a.length < b.length) := by
  by_cases h1 : k < a.length
  · have h2 : k = b.length := by omega
    subst h2
    rw [List.drop_length, List.drop_eq_getElem_cons h1, decide_eq_false (by omega)]; rfl
  · have h2 : k = a.length := by omega
    subst h2
    rw [List.drop_length]
    by_cases h3 : a.length < b.length
    · rw [List.drop_eq_getElem_cons h3, decide_eq_true h3]; rfl
    · rw [List.drop_eq_nil_of_le (by omega), decide_eq_false h3]; rfl

theorem get_list (s : ByteArray) (k : Nat) (h : k < s.size) (h' : k < s.data.toList.length) : s.data.toList[k] = s[k] := by
  have := Lib.data_getElem? s k h
  rw [List.getElem?_eq_getElem h'] at this
  exact Option.some.inj this

theorem lessL_at (a b : ByteArray) (k : Nat) (h1 : k < a.size) (h2 : k < b.size) : lessL (a.data.toList.drop k) (b.data.toList.drop k) = if a[k] = b[k] then lessL (a.data.toList.drop (k + 1)) (b.data.toList.drop (k + 1)) else decide (a[k].toNat < b[k].toNat) := by
  have sa := Lib.size_eq a
  have sb := Lib.size_eq b
  rw [lessL_drop k _ _ (by omega) (by omega), get_list a k h1, get_list b k h2]

theorem lessL_stop (a b : ByteArray) (k : Nat) (h : ¬ (k < a.size ∧ k < b.size)) (h1 : k ≤ a.size) (h2 : k ≤ b.size) : lessL (a.data.toList.drop k) (b.data.toList.drop k) = decide (a.size < b.size) := by
  have sa := Lib.size_eq a
  have sb := Lib.size_eq b
  rw [lessL_end k _ _ (by omega) (by omega) (by omega), sa, sb]

set_option maxRecDepth 100000 in
theorem less_any (a b : ByteArray) (w : World) (ha : a.size ≤ maxLen) :
    Calls Tryz.prog 127 #[.string a, .string b] w fun e w' => e = .returned (.bool (lessB a b)) ∧ Below w.heap.size w w' := by
  unfold maxLen at ha
  go_enter Tryz.func127, Tryz.ntmps127
  go_wp2_with fail
  go_loopw [5] (fun iv wr => ∃ k : Nat, k ≤ a.size ∧ k ≤ b.size ∧ iv = .int .i64 k ∧ lessL (a.data.toList.drop k) (b.data.toList.drop k) = lessB a b ∧ Below w.heap.size w wr) (fun i _ => a.size - (intOf i).toNat)
  case atStart => exact ⟨0, Nat.zero_le _, Nat.zero_le _, rfl, rfl, Below.refl _ _⟩
  case round =>
    obtain ⟨k, hka, hkb, rfl, hl, hbw⟩ := hrel
    have HB := Lib.hid hbw
    clear hbw
    by_cases hlt : k < a.size ∧ k < b.size
    · obtain ⟨h1, h2⟩ := hlt
      have hd := lessL_at a b k h1 h2
      rw [hl] at hd
      have hne : ((a[k].toNat : Int) != (b[k].toNat : Int)) = !(decide (a[k] = b[k])) := by
        rw [Bool.eq_iff_iff, bne_iff_ne, Bool.not_eq_true', decide_eq_false_iff_not, Ne, ← UInt8.toNat_inj]; omega
      clear hl
      by_cases he : a[k] = b[k]
      · rw [if_pos he] at hd
        rw [decide_eq_true he] at hne
        have HN := Lib.hid hd.symm
        clear hd he
        go_wp2_with fail
        go_quiet (fail)
        go_wp2_with fail
        go_roundw
        case rel => exact ⟨k + 1, by omega, by omega, by go_num, HN.out, below_drewN HB.out _⟩
        case measure => simp [intOf]; omega
      · rw [if_neg he] at hd
        rw [decide_eq_false he] at hne
        have HN := Lib.hid hd
        clear hd he
        go_wp2_with fail
        go_quiet (fail)
        go_wp2_with fail
        go_quiet (fail)
        go_wp2_with fail
        go_ret
        exact ⟨by rw [HN.out]; first | rfl | simp, by first | exact below_drewN HB.out _ | exact below_drewN (below_drewN HB.out _) _⟩
    · have HN := Lib.hid (show lessB a b = decide (a.size < b.size) by rw [← hl, lessL_stop a b k hlt hka hkb])
      clear hl
      by_cases h1 : k < a.size
      · have h2 : ¬ k < b.size := fun h => hlt ⟨h1, h⟩
        clear hlt
        go_wp2_with fail
        go_ret
        exact ⟨by rw [HN.out]; first | rfl | simp, HB.out⟩
      · clear hlt
        go_wp2_with fail
        go_ret
        exact ⟨by rw [HN.out]; first | rfl | simp, HB.out⟩

theorem all_takeW (f : UInt8 → Bool) (s : ByteArray) (k : Nat) (h : k < s.size) : (s.data.toList.take (k + 1)).all f = ((s.data.toList.take k).all f && f s[k]) := by
  have h6 : k < s.data.toList.length := by rw [← Lib.size_eq]; exact h
  rw [List.take_succ_eq_append_getElem h6, List.all_append, get_list s k h h6]; simp

theorem all_notW (f : UInt8 → Bool) (s : ByteArray) (k : Nat) (h : (s.data.toList.take k).all f = false) : s.data.toList.all f = false := by
  rw [List.all_eq_false] at h ⊢
  obtain ⟨x, hx, hf⟩ := h
  exact ⟨x, List.mem_of_mem_take hx, hf⟩

theorem wordC_no (c : UInt8) (h : wordC c = false) : c.toNat < 32 ∨ 126 < c.toNat ∨ c.toNat = 34 ∨ c.toNat = 92 := by
  unfold wordC at h
  simp only [Bool.and_eq_false_iff, decide_eq_false_iff_not, Bool.not_eq_false', beq_iff_eq] at h
  rcases h with (h | rfl) | rfl
  · omega
  · exact Or.inr (Or.inr (Or.inl rfl))
  · exact Or.inr (Or.inr (Or.inr rfl))

theorem wordC_yes (c : UInt8) (h : wordC c = true) : 32 ≤ c.toNat ∧ c.toNat ≤ 126 ∧ c.toNat ≠ 34 ∧ c.toNat ≠ 92 := by
  unfold wordC at h
  simp only [Bool.and_eq_true, decide_eq_true_eq, Bool.not_eq_true', beq_eq_false_iff_ne] at h
  refine ⟨h.1.1.1, h.1.1.2, fun e => h.1.2 (UInt8.toNat_inj.1 e), fun e => h.2 (UInt8.toNat_inj.1 e)⟩

set_option maxRecDepth 100000 in
theorem word_any (s : ByteArray) (w : World) (hs : s.size ≤ maxLen) :
    Calls Tryz.prog 126 #[.string s] w fun e w' => e = .returned (.bool (wordB s)) ∧ w = w' := by
  unfold maxLen at hs
  go_enter Tryz.func126, Tryz.ntmps126
  go_wp2_with fail
  go_loop [3] (fun i => ∃ k : Nat, k ≤ s.size ∧ i = .int .i64 k ∧ (s.data.toList.take k).all wordC = true) (fun i => s.size - (intOf i).toNat)
  case atStart => exact ⟨0, Nat.zero_le _, rfl, rfl⟩
  case round =>
    obtain ⟨k, hk, rfl, hall⟩ := hrel
    by_cases hlt : k < s.size
    · have ht := all_takeW wordC s k hlt
      rw [hall, Bool.true_and] at ht
      obtain ⟨c, hc⟩ : ∃ c, s[k] = c := ⟨_, rfl⟩
      rw [hc] at ht
      have hc8 := c.toNat_lt
      clear hall
      cases hw : wordC c with
      | true =>
        have HN := Lib.hid (ht.trans hw)
        obtain ⟨q1, q2, q3, q4⟩ := wordC_yes c hw
        have e1 : ((c.toNat : Int) == 34) = false := beq_eq_false_iff_ne.2 (by omega)
        have e2 : ((c.toNat : Int) == 92) = false := beq_eq_false_iff_ne.2 (by omega)
        clear ht hw q3 q4
        go_wp2_with fail
        go_round
        case rel => exact ⟨k + 1, by omega, by go_num, HN.out⟩
        case measure => simp [intOf]; omega
      | false =>
        have HN := Lib.hid (show wordB s = false by unfold wordB; rw [all_notW wordC s (k + 1) (ht.trans hw)]; rfl)
        have hq := wordC_no c hw
        clear ht hw
        have e1 : ((c.toNat : Int) == 34) = decide (c.toNat = 34) := by rw [Bool.eq_iff_iff, beq_iff_eq, decide_eq_true_eq]; omega
        have e2 : ((c.toNat : Int) == 92) = decide (c.toNat = 92) := by rw [Bool.eq_iff_iff, beq_iff_eq, decide_eq_true_eq]; omega
        by_cases h1 : c.toNat < 32
        · clear hq e1 e2
          go_wp2_with fail
          go_ret
          exact ⟨by rw [HN.out]; rfl, rfl⟩
        · by_cases h2 : 126 < c.toNat
          · clear hq e1 e2
            go_wp2_with fail
            go_ret
            exact ⟨by rw [HN.out]; rfl, rfl⟩
          · by_cases h3 : c.toNat = 34
            · rw [decide_eq_true h3] at e1
              clear hq e2 h3
              go_wp2_with fail
              go_ret
              exact ⟨by rw [HN.out]; rfl, rfl⟩
            · have h4 : c.toNat = 92 := by omega
              rw [decide_eq_false h3] at e1
              rw [decide_eq_true h4] at e2
              clear hq h3 h4
              go_wp2_with fail
              go_ret
              exact ⟨by rw [HN.out]; rfl, rfl⟩
    · have HN := Lib.hid (show wordB s = decide ((s.size : Int) ≤ 200) by
        rw [List.take_of_length_le (by rw [← Lib.size_eq]; omega)] at hall
        unfold wordB
        rw [hall, Bool.true_and]
        exact decide_eq_decide.2 (by omega))
      clear hall
      go_wp2_with fail
      go_ret
      exact ⟨by rw [HN.out]; first | rfl | simp, rfl⟩
end Go.Proofs.YtepcaglekgeamaaGreatDoor
namespace Go.Proofs.YtepcaglekgeamaaGreatDoor
open Go.RowKit

theorem beqB (a b : ByteArray) : (a.toList == b.toList) = decide (a = b) := by
  rw [Bool.eq_iff_iff, beq_iff_eq, decide_eq_true_eq, Lib.toList_data, Lib.toList_data]
  exact ⟨fun h => ByteArray.ext (Array.ext' h), fun h => by rw [h]⟩

theorem StrsAt.shape {w : World} {v : Value} {ss : List ByteArray} (h : StrsAt w v ss) : ∃ a cap, v = .slice a ss.length cap ∧ cap ≤ maxLen := by
  rcases h with ⟨rfl, rfl | ⟨a, cap, rfl, hc⟩⟩ | ⟨b, o, cap, rfl, _, _, hc, _⟩
  · exact ⟨_, _, rfl, by unfold maxLen; omega⟩
  · exact ⟨_, _, rfl, hc⟩
  · exact ⟨_, _, rfl, hc⟩

theorem Fives.shape {w : World} {v : Value} {n : Nat} {ev : Nat → Value} (h : Fives w v n ev) : ∃ a cap, v = .slice a n cap ∧ cap ≤ maxLen ∧ n ≤ maxLen := by
  rcases h with ⟨rfl, rfl | ⟨a, cap, rfl, hc⟩⟩ | ⟨b, o, cap, rfl, _, h2, hc, _⟩
  · exact ⟨_, _, rfl, by unfold maxLen; omega, by unfold maxLen; omega⟩
  · exact ⟨_, _, rfl, hc, by unfold maxLen; omega⟩
  · exact ⟨_, _, rfl, hc, by omega⟩

theorem StrsAt.len {w : World} {v : Value} {ss : List ByteArray} (h : StrsAt w v ss) : ss.length ≤ maxLen := by
  rcases h with ⟨rfl, _⟩ | ⟨b, o, c, e, _, h1, h2, hc⟩
  · exact Nat.zero_le _
  · omega

theorem StrsAt.at {w : World} {a : Option Addr} {n cap : Nat} {ss : List ByteArray} (h : StrsAt w (.slice a n cap) ss) (i : Nat) (hi : i < ss.length) : ∃ b o, a = some ⟨b, o, none⟩ ∧ w.cell? ⟨b, o + i, none⟩ = some (.string ss[i]) := by
  rcases h with ⟨rfl, _⟩ | ⟨b, o, c, e, _, _, _, hc⟩
  · simp at hi
  · simp only [Value.slice.injEq] at e
    exact ⟨b, o, e.1, hc i hi⟩

theorem Fives.at {w : World} {a : Option Addr} {cap n : Nat} {ev : Nat → Value} (h : Fives w (.slice a n cap) n ev) (i : Nat) (hi : i < n) : ∃ b o c0 c1 c2 c3 c4, a = some ⟨b, o, none⟩ ∧ ev i = .agg #[c0, c1, c2, c3, c4] ∧
    w.cell? ⟨b, o + i * 5, none⟩ = some c0 ∧ w.cell? ⟨b, o + i * 5 + 1, none⟩ = some c1 ∧ w.cell? ⟨b, o + i * 5 + 2, none⟩ = some c2 ∧ w.cell? ⟨b, o + i * 5 + 3, none⟩ = some c3 ∧ w.cell? ⟨b, o + i * 5 + 4, none⟩ = some c4 := by
  rcases h with ⟨h0, _⟩ | ⟨b, o, c, e, _, _, _, hc⟩
  · omega
  · simp only [Value.slice.injEq] at e
    obtain ⟨c0, c1, c2, c3, c4, h1, h2⟩ := hc i hi
    exact ⟨b, o, c0, c1, c2, c3, c4, e.1, h1, h2⟩

def At5 (w : World) (B : Nat) (a b c d e : Value) : Prop := w.heap[B]? = some (.cells #[a, b, c, d, e] 71 (0, 0))

theorem At5.lt {w : World} {B : Nat} {a b c d e : Value} (h : At5 w B a b c d e) : B < w.heap.size := (Array.getElem?_eq_some_iff.1 h).1

theorem At5.keep {w w' : World} {B : Nat} {a b c d e : Value} (h : At5 w B a b c d e) (hb : Below w.heap.size w w') : At5 w' B a b c d e := (hb.block B h.lt).trans h

theorem At5.cells {w : World} {B : Nat} {a b c d e : Value} (h : At5 w B a b c d e) :
    w.cell? ⟨B, 0, none⟩ = some a ∧ w.cell? ⟨B, 1, none⟩ = some b ∧ w.cell? ⟨B, 2, none⟩ = some c ∧ w.cell? ⟨B, 3, none⟩ = some d ∧ w.cell? ⟨B, 4, none⟩ = some e := by
  unfold At5 at h
  refine ⟨?_, ?_, ?_, ?_, ?_⟩ <;> simp [World.cell?, h]

theorem At5.new (w : World) (a b c d e : Value) : At5 (w.alloc (.cells #[a, b, c, d, e] 71)) w.heap.size a b c d e := by
  show (w.heap.push (Obj.cells #[a, b, c, d, e] 71 (0, 0)))[w.heap.size]? = _; simp

theorem below_new (w : World) (o : Obj) : Below w.heap.size w (w.alloc o) := (Below.refl _ _).alloc (Nat.le_refl _) _

theorem Below.then {a b c : World} (h : Below a.heap.size a b) (k : Below b.heap.size b c) : Below a.heap.size a c := h.trans (k.mono h.size)
end Go.Proofs.YtepcaglekgeamaaGreatDoor
namespace Go.Proofs.YtepcaglekgeamaaGreatDoor
open Go.RowKit

def RdAt (w : World) (B : Nat) (s : ByteArray) : Prop := w.heap[B]? = some (.cells #[.string s] 163 (0, 0))

theorem RdAt.lt {w : World} {B : Nat} {s : ByteArray} (h : RdAt w B s) : B < w.heap.size := (Array.getElem?_eq_some_iff.1 h).1

theorem RdAt.cell {w : World} {B : Nat} {s : ByteArray} (h : RdAt w B s) : w.cell? ⟨B, 0, none⟩ = some (.string s) := by
  unfold RdAt at h; simp [World.cell?, h]

theorem RdAt.frozen {w : World} {B : Nat} {s : ByteArray} (h : RdAt w B s) : w.frozen? ⟨B, 0, none⟩ = false := by
  unfold RdAt at h; simp [World.frozen?, h]

theorem RdAt.set {w : World} {B : Nat} {s : ByteArray} (h : RdAt w B s) (r : ByteArray) : RdAt (w.setCell ⟨B, 0, none⟩ (.string r)) B r := by
  unfold RdAt at h ⊢
  show (w.heap.modify B _)[B]? = _
  rw [Array.getElem?_modify, if_pos rfl, h]
  rfl

theorem RdAt.new (w : World) (s : ByteArray) : RdAt (w.alloc (.cells #[.string s] 163)) w.heap.size s := by
  show (w.heap.push (Obj.cells #[.string s] 163 (0, 0)))[w.heap.size]? = _; simp

theorem RdAt.kept {w w' : World} {B : Nat} {s : ByteArray} (h : RdAt w B s) (hb : w'.heap[B]? = w.heap[B]?) : RdAt w' B s := hb.trans h

def Gone (B : Nat) (w w' : World) : Prop := w.grownBy w' (some B)

theorem Gone.refl (B : Nat) (w : World) : Gone B w w := ⟨rfl, rfl, rfl, Nat.le_refl _, fun _ _ _ => rfl⟩

theorem Gone.trans {B : Nat} {a b c : World} (h : Gone B a b) (k : Gone B b c) : Gone B a c :=
  ⟨k.os.trans h.os, k.tape.trans h.tape, k.output.trans h.output, Nat.le_trans h.size k.size, fun i hi hne => (k.block i (Nat.lt_of_lt_of_le hi h.size) hne).trans (h.block i hi hne)⟩

theorem Gone.set (B o : Nat) (w : World) (u : Value) : Gone B w (w.setCell ⟨B, o, none⟩ u) :=
  ⟨rfl, rfl, rfl, by simp [World.setCell], fun k _ hne => Below.heap_setCell _ _ _ _ (fun e => hne (by rw [e]))⟩

theorem Gone.below {B : Nat} {w w' : World} (h : Below w.heap.size w w') : Gone B w w' := ⟨h.os, h.tape, h.output, h.size, fun k hk _ => h.block k hk⟩

theorem Gone.to {B N : Nat} {w w' : World} (h : Gone B w w') (hN : N ≤ B) (hs : N ≤ w.heap.size) : Below N w w' :=
  ⟨h.os, h.tape, h.output, h.size, fun k hk => h.block k (by omega) (by simp; omega)⟩

theorem bytes_eq (a : ByteArray) (l : List UInt8) (h : a.data.toList = l) : a = ⟨l.toArray⟩ := by rw [← h]

def restB (s : ByteArray) : ByteArray := s.extract 1 s.size

theorem restB_list (s : ByteArray) : (restB s).data.toList = s.data.toList.tail := by
  unfold restB
  rw [ByteArray.data_extract, Array.toList_extract]
  have hs : s.data.toList.length = s.size := (Lib.size_eq s).symm
  simp only [List.extract]
  rw [List.take_of_length_le (by rw [List.length_drop]; omega), List.drop_one]

theorem cons_of (s : ByteArray) (c : UInt8) (l : List UInt8) (h : s.data.toList = c :: l) : 0 < s.size ∧ ∀ h0 : 0 < s.size, s[0] = c := by
  have hs := Lib.size_eq s
  rw [h] at hs
  simp at hs
  refine ⟨by omega, fun h0 => ?_⟩
  rw [← get_list s 0 h0 (by rw [h]; simp)]
  simp [h]

theorem nil_of (s : ByteArray) (h : s.data.toList = []) : s = ⟨#[]⟩ := by
  have hs := Lib.size_eq s
  rw [h] at hs
  exact ByteArray.ext (Array.eq_empty_of_size_eq_zero hs)

theorem not_nil (s : ByteArray) (c : UInt8) (l : List UInt8) (h : s.data.toList = c :: l) : (s.toList == []) = false ∧ s.toList.isEmpty = false := by
  rw [Lib.toList_data, h]
  exact ⟨rfl, rfl⟩

def headB (s : ByteArray) (c : UInt8) : Bool := s.data.toList.head? == some c

set_option maxRecDepth 100000 in
theorem at_any (B : Nat) (s : ByteArray) (c : UInt8) (k : Int) (hk : k = (c.toNat : Int)) (w : World) (h : RdAt w B s) :
    Calls Tryz.prog 141 #[.pointer (some ⟨B, 0, none⟩), .int .u8 k] w fun e w' => e = .returned (.bool (headB s c)) ∧ w' = w := by
  have hc := h.cell
  have hc8 := c.toNat_lt
  obtain ⟨l, hl⟩ : ∃ l, s.data.toList = l := ⟨_, rfl⟩
  cases l with
  | nil =>
    obtain rfl := nil_of s hl
    have HO := Lib.hid (show headB ⟨#[]⟩ c = false from rfl)
    clear hl hk hc8
    go_enter Tryz.func141, Tryz.ntmps141
    go_wp2_with fail
    go_ret
    exact ⟨by rw [HO.out]; rfl, rfl⟩
  | cons a l =>
    obtain ⟨h0, ha⟩ := cons_of s a l hl
    obtain ⟨e1, e2⟩ := not_nil s a l hl
    have hx : s[0] = a := ha h0
    have hq : ((a.toNat : Int) == k) = headB s c := by
      unfold headB
      rw [hl, hk, Bool.eq_iff_iff, beq_iff_eq, beq_iff_eq, List.head?_cons, Option.some.injEq, ← UInt8.toNat_inj]
      omega
    obtain ⟨b, hb⟩ : ∃ b, headB s c = b := ⟨_, rfl⟩
    rw [hb] at hq ⊢
    clear hl hk hc8 ha hb
    go_enter Tryz.func141, Tryz.ntmps141
    go_wp2_with fail
    go_ret
    exact ⟨rfl, rfl⟩

def stop (k : Int) : Ending := .panicked [{ v := .iface 24 (.int .i64 k), recovered := false }]

set_option maxRecDepth 100000 in
theorem take_any (B : Nat) (s : ByteArray) (c : UInt8) (k : Int) (hk : k = (c.toNat : Int)) (w : World) (h : RdAt w B s) :
    Calls Tryz.prog 154 #[.pointer (some ⟨B, 0, none⟩), .int .u8 k] w fun e w' =>
      if headB s c then e = .returned (.tuple #[]) ∧ w' = w.setCell ⟨B, 0, none⟩ (.string (restB s)) else e = stop 6 ∧ w' = w := by
  have hc := h.cell
  have hz := h.frozen
  have C := Lib.hid (at_any B s c k hk w h)
  cases hb : headB s c with
  | false =>
    rw [hb] at C
    simp only [Bool.false_eq_true, if_false]
    clear hk hb
    go_enter Tryz.func154, Tryz.ntmps154
    go_wp2_with fail
    refine C.out.mono ?_
    rintro e w1 ⟨rfl, rfl⟩
    go_wp2_with fail
    exact ⟨rfl, rfl, rfl⟩
  | true =>
    rw [hb] at C
    simp only [if_true]
    have h1 : (1 : Int) ≤ (s.size : Int) := by
      unfold headB at hb
      cases hl : s.data.toList with
      | nil => rw [hl] at hb; cases hb
      | cons a l => have := (cons_of s a l hl).1; omega
    clear hk hb
    go_enter Tryz.func154, Tryz.ntmps154
    go_wp2_with fail
    refine C.out.mono ?_
    rintro e w1 ⟨rfl, rfl⟩
    go_wp2_with fail
    go_end0
    exact ⟨rfl, rfl⟩
end Go.Proofs.YtepcaglekgeamaaGreatDoor
namespace Go.Proofs.YtepcaglekgeamaaGreatDoor
open Go.RowKit

structure TLow (w : World) : Prop where
  size : 13 ≤ w.heap.size
  max : ∃ m, w.cell? ⟨4, 0, none⟩ = some (.int .i64 m)
  pow : Lib.TabIs Tryz.prog w "internal/strconv.uint64pow10" .u64 Lib.pow10Tab

structure TEnv (w : World) : Prop extends TLow w where
  syn : ∃ tp p, w.var? Tryz.prog "strconv.ErrSyntax" = some #[.iface tp p]
  ran : ∃ tp p, w.var? Tryz.prog "strconv.ErrRange" = some #[.iface tp p]

theorem var_keep {w w' : World} {name : String} {g : Nat} {cs : Array Value} (hg : Tryz.prog.globalNamed name = some g) (hb : w'.heap[g]? = w.heap[g]?) (h : w.var? Tryz.prog name = some cs) : w'.var? Tryz.prog name = some cs := by
  unfold World.var? at h ⊢
  rw [hg] at h ⊢
  simp only [Option.bind_some] at h ⊢
  rw [hb]; exact h

theorem TLow.keep {w w' : World} (h : TLow w) (hs : w.heap.size ≤ w'.heap.size) (hb : ∀ k, k < 13 → w'.heap[k]? = w.heap[k]?) : TLow w' where
  size := Nat.le_trans h.size hs
  max := by obtain ⟨m, hm⟩ := h.max; exact ⟨m, (World.cell?_of_block (a := ⟨4, 0, none⟩) (hb 4 (by decide))).trans hm⟩
  pow := var_keep (g := 6) (by kernel_rfl) (hb _ (by decide)) h.pow

theorem TLow.below {w w' : World} (h : TLow w) (hb : Below w.heap.size w w') : TLow w' := h.keep hb.size fun k hk => hb.block k (Nat.lt_of_lt_of_le hk h.size)

theorem TEnv.keep {w w' : World} (h : TEnv w) (hs : w.heap.size ≤ w'.heap.size) (hb : ∀ k, k < 13 → w'.heap[k]? = w.heap[k]?) : TEnv w' where
  toTLow := h.toTLow.keep hs hb
  syn := by obtain ⟨tp, p, e⟩ := h.syn; exact ⟨tp, p, var_keep (g := 9) (by kernel_rfl) (hb _ (by decide)) e⟩
  ran := by obtain ⟨tp, p, e⟩ := h.ran; exact ⟨tp, p, var_keep (g := 10) (by kernel_rfl) (hb _ (by decide)) e⟩

theorem TEnv.below {w w' : World} (h : TEnv w) (hb : Below w.heap.size w w') : TEnv w' := h.keep hb.size fun k hk => hb.block k (Nat.lt_of_lt_of_le hk h.size)

theorem TEnv.gone {w w' : World} {B : Nat} (h : TEnv w) (hb : Gone B w w') (hB : 13 ≤ B) : TEnv w' := h.keep hb.size fun k hk => hb.block k (Nat.lt_of_lt_of_le hk h.size) (by simp; omega)

theorem below_grow (w : World) (q : Nat) (os : Array Obj) : Below w.heap.size w (Sort.grow (w.drewN q) os) := by
  refine ⟨rfl, rfl, rfl, by simp [Sort.grow], fun k hk => ?_⟩
  show (w.heap ++ os)[k]? = _
  rw [Array.getElem?_append_left hk]

theorem itoa_low (n : Int) (h0 : -9223372036854775808 ≤ n) (h1 : n ≤ 9223372036854775807) (w : World) (h : TLow w) :
    Calls Tryz.prog 55 #[.int .i64 n] w fun e w' => e = .returned (.string ⟨(Lib.itoa n).toArray⟩) ∧ Below w.heap.size w w' := by
  refine (Tryz.strconv_Itoa n h0 h1 w h.pow).mono ?_
  rintro e w' ⟨rfl, k, os, rfl⟩
  exact ⟨rfl, below_grow w k os⟩

theorem itoa_any (n : Int) (h0 : -9223372036854775808 ≤ n) (h1 : n ≤ 9223372036854775807) (w : World) (h : TEnv w) :
    Calls Tryz.prog 55 #[.int .i64 n] w fun e w' => e = .returned (.string ⟨(Lib.itoa n).toArray⟩) ∧ Below w.heap.size w w' := itoa_low n h0 h1 w h.toTLow

def AtoiEnd (s : ByteArray) (e : Ending) : Prop :=
  (∃ n, Lib.atoiAll s.data.toList = .ok n ∧ e = .returned (.tuple #[.int .i64 n, .nilIface])) ∨
  (∃ n p, (∀ m, Lib.atoiAll s.data.toList ≠ .ok m) ∧ e = .returned (.tuple #[.int .i64 n, .iface 235 p]))

theorem atoi_any (s : ByteArray) (hs : s.size ≤ 281474976710656) (w : World) (h : TEnv w) :
    Calls Tryz.prog 162 #[.string s] w fun e w' => AtoiEnd s e ∧ Below w.heap.size w w' := by
  rcases ha : Lib.atoiAll s.data.toList with n | - | -
  · refine (Tryz.strconv_Atoi_ok s (by omega) n ha w).mono ?_
    rintro e w' ⟨rfl, h⟩
    refine ⟨Or.inl ⟨n, ha, rfl⟩, ?_⟩
    rcases h with rfl | ⟨t, rfl⟩
    · exact Below.refl _ _
    · exact Lib.bytesWorld_below _ _ _
  · obtain ⟨tp, p, hv⟩ := h.syn
    refine (Tryz.strconv_Atoi_syntax_var s hs ha tp p w hv).mono ?_
    rintro e w' ⟨N, rfl, -, -, hb⟩
    exact ⟨Or.inr ⟨_, _, (fun m e => by rw [ha] at e; cases e), rfl⟩, hb⟩
  · obtain ⟨tp, p, hv⟩ := h.ran
    refine (Tryz.strconv_Atoi_range_var s hs ha tp p w hv).mono ?_
    rintro e w' ⟨N, rfl, -, -, hb⟩
    exact ⟨Or.inr ⟨_, _, (fun m e => by rw [ha] at e; cases e), rfl⟩, hb⟩

theorem index_quote : ∀ l : List UInt8, Lib.index l [34] = match wordEnd l with | some p => (p.1.length : Int) | none => -1
  | [] => rfl
  | c :: l => by
    rw [Lib.index, wordEnd, index_quote l]
    by_cases h : c = 34
    · rw [if_pos h, if_pos (by rw [h]; simp [List.isPrefixOf])]; rfl
    · rw [if_neg h, if_neg (by simp [List.isPrefixOf]; exact fun e => h e.symm)]
      cases wordEnd l with
      | none => rfl
      | some p =>
        simp only [Option.map_some]
        rw [if_neg (by rw [beq_iff_eq]; omega)]
        simp

theorem cut_quote (l : List UInt8) : Lib.cut l [34] = match wordEnd l with | some p => (p.1, p.2, true) | none => (l, [], false) := by
  unfold Lib.cut
  rw [index_quote]
  cases h : wordEnd l with
  | none => rfl
  | some p =>
    have hs := wordEnd_sound l p.1 p.2 h
    simp only
    rw [if_pos (by omega), Int.toNat_natCast, hs]
    simp

theorem digits_contains (c : UInt8) : ([48, 49, 50, 51, 52, 53, 54, 55, 56, 57] : List UInt8).contains c = digitC c := by
  have h8 := c.toNat_lt
  rw [Bool.eq_iff_iff, digitC_iff, List.contains_iff_mem]
  simp only [List.mem_cons, List.not_mem_nil, or_false, ← UInt8.toNat_inj]
  constructor
  · intro h; simp at h; omega
  · intro h; simp; omega

theorem trimLeft_digits (l : List UInt8) : Lib.trimLeftS l [48, 49, 50, 51, 52, 53, 54, 55, 56, 57] = l.dropWhile digitC := by
  unfold Lib.trimLeftS
  congr 1
  funext c
  exact digits_contains c

theorem trimSuffix_digits (l : List UInt8) : Lib.trimSuffix l (l.dropWhile digitC) = l.takeWhile digitC := by
  unfold Lib.trimSuffix Lib.hasSuffix
  rw [if_pos (List.isSuffixOf_iff_suffix.2 (List.dropWhile_suffix _))]
  have h := List.takeWhile_append_dropWhile (p := digitC) (l := l)
  have hl : l.length = (l.takeWhile digitC).length + (l.dropWhile digitC).length := by rw [← List.length_append, h]
  rw [hl, Nat.add_sub_cancel]
  generalize l.takeWhile digitC = p at h ⊢
  rw [← h, List.take_left' rfl]
end Go.Proofs.YtepcaglekgeamaaGreatDoor
namespace Go.Proofs.YtepcaglekgeamaaGreatDoor
open Go.RowKit

theorem clone_t (s : ByteArray) (w : World) (hs : s.size ≤ 1099511627776) :
    Calls Tryz.prog 156 #[.string s] w fun e w' => e = .returned (.string s) ∧ Below w.heap.size w w' := by
  have H := Lib.hid (Tryz.stringslite_Clone s w (by omega))
  go_enter Tryz.func156, Tryz.ntmps156
  go_wp2_with fail
  refine H.out.mono ?_
  rintro e w1 ⟨rfl, hb⟩
  have HB := Lib.hid hb
  clear hb
  go_wp2_with fail
  go_ret
  exact ⟨rfl, HB.out⟩

theorem cut_t (s : ByteArray) (w : World) (hs : s.size ≤ 1073741824) (h : TEnv w) :
    Calls Tryz.prog 155 #[.string s, .string ⟨#[34]⟩] w fun e w' => ∃ (x r : ByteArray) (b : Bool), e = .returned (.tuple #[.string x, .string r, .bool b]) ∧
      (match wordEnd s.data.toList with | some p => x.data.toList = p.1 ∧ r.data.toList = p.2 ∧ b = true | none => b = false) ∧ Below w.heap.size w w' := by
  obtain ⟨m, hm⟩ := h.max
  refine (Tryz.strings_Cut s ⟨#[34]⟩ m w (by omega) hm).mono ?_
  rintro e w' ⟨rfl, n, rfl⟩
  refine ⟨_, _, _, rfl, ?_, ⟨rfl, rfl, rfl, Nat.le_refl _, fun _ _ => rfl⟩⟩
  have hq := cut_quote s.data.toList
  rw [show (⟨#[34]⟩ : ByteArray).data.toList = [34] from rfl, hq]
  cases wordEnd s.data.toList with
  | none => rfl
  | some p => exact ⟨rfl, rfl, rfl⟩

structure WordEnds (B : Nat) (s : ByteArray) (w : World) (e : Ending) (w' : World) : Prop where
  gone : Gone B w w'
  is : match quoteL s.data.toList with
    | some p => e = .returned (.string ⟨p.1.toArray⟩) ∧ RdAt w' B ⟨p.2.toArray⟩
    | none => e = stop 6

theorem headB_cons (s : ByteArray) (c : UInt8) : headB s c = match s.data.toList with | [] => false | a :: _ => a == c := by
  unfold headB
  cases s.data.toList with
  | nil => rfl
  | cons a l => rw [List.head?_cons, Bool.eq_iff_iff, beq_iff_eq, beq_iff_eq, Option.some.injEq]

set_option maxRecDepth 100000 in
theorem word_t (B : Nat) (s : ByteArray) (w : World) (hs : s.size ≤ 1073741824) (h : RdAt w B s) (he : TEnv w) (hB : 13 ≤ B) :
    Calls Tryz.prog 142 #[.pointer (some ⟨B, 0, none⟩)] w fun e w' => WordEnds B s w e w' := by
  have hc := h.cell
  have C := Lib.hid (take_any B s 34 34 (by rfl) w h)
  cases hb : headB s 34 with
  | false =>
    rw [hb] at C
    simp only [Bool.false_eq_true, if_false] at C
    have HO := Lib.hid (show quoteL s.data.toList = none by
      rw [headB_cons] at hb
      cases hl : s.data.toList with
      | nil => rfl
      | cons a l => rw [hl] at hb; rw [quoteL, if_neg (by simpa using hb)])
    clear hb
    go_enter Tryz.func142, Tryz.ntmps142
    go_wp2_with fail
    refine C.out.mono ?_
    rintro e w1 ⟨rfl, rfl⟩
    exact ⟨rfl, ⟨Gone.refl _ _, by rw [HO.out]; rfl⟩⟩
  | true =>
    rw [hb] at C
    simp only [if_true] at C
    have hq : quoteL s.data.toList = wordEnd (restB s).data.toList := by
      rw [headB_cons] at hb
      rw [restB_list]
      cases hl : s.data.toList with
      | nil => rw [hl] at hb; cases hb
      | cons a l => rw [hl] at hb; rw [quoteL, if_pos (by simpa using hb), List.tail_cons]
    have hrs : (restB s).size ≤ s.size := by
      have h1 := restB_list s
      have h2 := Lib.size_eq (restB s)
      have h3 := Lib.size_eq s
      rw [h1, List.length_tail] at h2
      omega
    have g1 := Gone.set B 0 w (.string (restB s))
    have r1 := h.set (restB s)
    obtain ⟨W1, hW1⟩ : ∃ W1, w.setCell ⟨B, 0, none⟩ (.string (restB s)) = W1 := ⟨_, rfl⟩
    rw [hW1] at C g1 r1
    have e1 := he.gone g1 hB
    obtain ⟨t, ht⟩ : ∃ t, restB s = t := ⟨_, rfl⟩
    rw [ht] at r1 hq hrs
    have c1 := r1.cell
    have z1 := r1.frozen
    have D := Lib.hid (cut_t t W1 (by omega) e1)
    have HQ := Lib.hid hq
    have G1 := Lib.hid g1
    have R1 := Lib.hid r1
    clear hb hq hW1 ht g1 r1 e1
    go_enter Tryz.func142, Tryz.ntmps142
    go_wp2_with fail
    refine C.out.mono ?_
    rintro e w1 ⟨rfl, rfl⟩
    go_wp2_with fail
    refine D.out.mono ?_
    rintro e w2 ⟨x, r, b, rfl, hm, hb2⟩
    have HM := Lib.hid hm
    have c2 := (hb2.cell (World.block_lt_of_cell? _ _ c1)).trans c1
    have R2 := Lib.hid (R1.out.kept (hb2.block B R1.out.lt))
    have z2 := R2.out.frozen
    have G2 := Lib.hid (G1.out.trans (Gone.below (B := B) hb2))
    clear hm hb2
    cases b with
    | false =>
      have HO := Lib.hid (show quoteL s.data.toList = none by
        rw [HQ.out]
        have := HM.out
        cases hw : wordEnd t.data.toList with
        | none => rfl
        | some p => rw [hw] at this; exact absurd this.2.2 (by simp))
      go_wp2_with fail
      exact ⟨rfl, ⟨G2.out, by rw [HO.out]; rfl⟩⟩
    | true =>
      obtain ⟨p, hp⟩ : ∃ p, wordEnd t.data.toList = some p := by
        have := HM.out
        cases hw : wordEnd t.data.toList with
        | none => rw [hw] at this; cases this
        | some p => exact ⟨p, rfl⟩
      have hx := HM.out
      rw [hp] at hx
      have HX := Lib.hid (bytes_eq x p.1 hx.1)
      have HR := Lib.hid (bytes_eq r p.2 hx.2.1)
      have hxs : x.size ≤ 1099511627776 := by
        have h1 := wordEnd_sound _ p.1 p.2 hp
        have h2 := Lib.size_eq t
        have h3 := Lib.size_eq x
        rw [hx.1] at h3
        rw [h1] at h2
        simp at h2
        omega
      have HO := Lib.hid (show quoteL s.data.toList = some p by rw [HQ.out, hp])
      have R3 := Lib.hid (R2.out.set r)
      have G3 := Lib.hid (G2.out.trans (Gone.set B 0 w2 (.string r)))
      have K := Lib.hid (clone_t x (w2.setCell ⟨B, 0, none⟩ (.string r)) hxs)
      clear hx hp hxs
      go_wp2_with fail
      refine K.out.mono ?_
      rintro e w3 ⟨rfl, hb3⟩
      have R4 := Lib.hid (R3.out.kept (hb3.block B R3.out.lt))
      have G4 := Lib.hid (G3.out.trans (Gone.below (B := B) hb3))
      clear hb3
      go_wp2_with fail
      go_ret
      refine ⟨G4.out, ?_⟩
      rw [HO.out]
      exact ⟨by rw [← HX.out]; rfl, by rw [← HR.out]; exact R4.out⟩

structure WholeEnds (B : Nat) (s : ByteArray) (w : World) (e : Ending) (w' : World) : Prop where
  gone : Gone B w w'
  is : match wholeL s.data.toList with
    | some p => ∃ n, p.1 = .mk 1 n ⟨#[]⟩ [] [] ∧ -9223372036854775808 ≤ n ∧ n ≤ 9223372036854775807 ∧ e = .returned (.int .i64 n) ∧ RdAt w' B ⟨p.2.toArray⟩
    | none => e = stop 6

theorem trimLeft_t (s : ByteArray) (w : World) :
    Calls Tryz.prog 160 #[.string s, .string ⟨#[48, 49, 50, 51, 52, 53, 54, 55, 56, 57]⟩] w fun e w' => e = .returned (.string ⟨(s.data.toList.dropWhile digitC).toArray⟩) ∧ Below w.heap.size w w' := by
  refine (Any.strings_TrimLeft_laid Tryz.lays161 (by kernel_rfl) s ⟨#[48, 49, 50, 51, 52, 53, 54, 55, 56, 57]⟩ w (by decide) (ascii_of_all (by decide))).mono ?_
  rintro e w' ⟨rfl, hb⟩
  exact ⟨by rw [show (⟨#[48, 49, 50, 51, 52, 53, 54, 55, 56, 57]⟩ : ByteArray).data.toList = [48, 49, 50, 51, 52, 53, 54, 55, 56, 57] from rfl, trimLeft_digits], hb⟩

theorem trimSuffix_t (s r : ByteArray) (hs : s.size ≤ 1073741824) (hr : r.data.toList = s.data.toList.dropWhile digitC) (w : World) :
    Calls Tryz.prog 161 #[.string s, .string r] w fun e w' => e = .returned (.string ⟨(s.data.toList.takeWhile digitC).toArray⟩) ∧ w' = w := by
  refine (Tryz.strings_TrimSuffix s r w (by omega)).mono ?_
  rintro e w' ⟨rfl, rfl⟩
  exact ⟨by rw [hr, trimSuffix_digits], rfl⟩

set_option maxRecDepth 100000 in
theorem whole_t (B : Nat) (s : ByteArray) (w : World) (hs : s.size ≤ 1073741824) (h : RdAt w B s) (he : TEnv w) :
    Calls Tryz.prog 145 #[.pointer (some ⟨B, 0, none⟩)] w fun e w' => WholeEnds B s w e w' := by
  have hc := h.cell
  have C := Lib.hid (trimLeft_t s w)
  obtain ⟨r, hr⟩ : ∃ r : ByteArray, (⟨(s.data.toList.dropWhile digitC).toArray⟩ : ByteArray) = r := ⟨_, rfl⟩
  obtain ⟨x, hx⟩ : ∃ x : ByteArray, (⟨(s.data.toList.takeWhile digitC).toArray⟩ : ByteArray) = x := ⟨_, rfl⟩
  have hrl : r.data.toList = s.data.toList.dropWhile digitC := by rw [← hr]
  have hxl : x.data.toList = s.data.toList.takeWhile digitC := by rw [← hx]
  have D := Lib.hid (fun w => trimSuffix_t s r hs hrl w)
  have hxs : x.size ≤ 281474976710656 := by
    have h2 := Lib.size_eq x
    have h3 := Lib.size_eq s
    have h4 := congrArg List.length (List.takeWhile_append_dropWhile (p := digitC) (l := s.data.toList))
    rw [List.length_append] at h4
    rw [hxl] at h2
    omega
  have A1 := Lib.hid (fun w h => atoi_any x hxs w h)
  have HW := Lib.hid (show wholeL s.data.toList = match Lib.atoiAll x.data.toList with | .ok n => if Lib.itoa n = x.data.toList then some (.mk 1 n ⟨#[]⟩ [] [], r.data.toList) else none | Lib.NumEnd.syntax => none | .range => none by
    unfold wholeL; rw [hxl, hrl]; cases Lib.atoiAll (s.data.toList.takeWhile digitC) <;> rfl)
  have HE := Lib.hid he
  have R0 := Lib.hid h
  rw [hr] at C
  rw [hx] at D
  clear hr hx hrl hxl hxs he h
  go_enter Tryz.func145, Tryz.ntmps145
  go_wp2_with fail
  refine C.out.mono ?_
  rintro e w1 ⟨rfl, hb1⟩
  have c1 := (hb1.cell (World.block_lt_of_cell? _ _ hc)).trans hc
  have R1 := Lib.hid (R0.out.kept (hb1.block B R0.out.lt))
  have E1 := Lib.hid (HE.out.below hb1)
  have G1 := Lib.hid (Gone.below (B := B) hb1)
  clear hb1 hc
  go_wp2_with fail
  refine (D.out w1).mono ?_
  rintro e w2 ⟨rfl, rfl⟩
  go_wp2_with fail
  refine (A1.out w2 E1.out).mono ?_
  rintro e w3 ⟨ha, hb3⟩
  have R3 := Lib.hid (R1.out.kept (hb3.block B R1.out.lt))
  have E3 := Lib.hid (E1.out.below hb3)
  have G3 := Lib.hid (G1.out.trans (Gone.below (B := B) hb3))
  clear hb3 c1
  rcases ha with ⟨n, ha, rfl⟩ | ⟨n, p, ha, rfl⟩
  · have HA := Lib.hid ha
    obtain ⟨n0, n1⟩ := Lib.atoiAll_bounds ha
    have I := Lib.hid (itoa_any n n0 n1 w3 E3.out)
    have hI := (show (⟨(Lib.itoa n).toArray⟩ : ByteArray).data.toList = Lib.itoa n from rfl)
    obtain ⟨y, hy⟩ : ∃ y : ByteArray, (⟨(Lib.itoa n).toArray⟩ : ByteArray) = y := ⟨_, rfl⟩
    rw [hy] at I hI
    have HI := Lib.hid hI
    have hq : (y.toList == x.toList) = decide (Lib.itoa n = x.data.toList) := by
      rw [beqB, ← hI]
      exact decide_eq_decide.2 ⟨fun h => by rw [h], fun h => ByteArray.ext (Array.ext' h)⟩
    clear ha hI hy
    by_cases hi : Lib.itoa n = x.data.toList
    · rw [decide_eq_true hi] at hq
      have HO := Lib.hid (show wholeL s.data.toList = some (.mk 1 n ⟨#[]⟩ [] [], r.data.toList) by rw [HW.out, HA.out]; simp only; rw [if_pos hi])
      clear hi
      go_wp2_with fail
      refine I.out.mono ?_
      rintro e w4 ⟨rfl, hb4⟩
      have R4 := Lib.hid (R3.out.kept (hb4.block B R3.out.lt))
      have G4 := Lib.hid (G3.out.trans (Gone.below (B := B) hb4))
      have c4 := R4.out.cell
      have z4 := R4.out.frozen
      clear hb4
      go_wp2_with fail
      go_ret
      refine ⟨G4.out.trans (Gone.set B 0 w4 (.string r)), ?_⟩
      rw [HO.out]
      exact ⟨n, rfl, n0, n1, rfl, by have er := bytes_eq r r.data.toList rfl; rw [← er]; exact R4.out.set r⟩
    · rw [decide_eq_false hi] at hq
      have HO := Lib.hid (show wholeL s.data.toList = none by rw [HW.out, HA.out]; simp only; rw [if_neg hi])
      clear hi
      go_wp2_with fail
      refine I.out.mono ?_
      rintro e w4 ⟨rfl, hb4⟩
      have G4 := Lib.hid (G3.out.trans (Gone.below (B := B) hb4))
      clear hb4
      go_wp2_with fail
      exact ⟨rfl, ⟨G4.out, by rw [HO.out]; rfl⟩⟩
  · have HO := Lib.hid (show wholeL s.data.toList = none by
      rw [HW.out]
      rcases hh : Lib.atoiAll x.data.toList with m | - | -
      · exact absurd hh (ha m)
      · rfl
      · rfl)
    clear ha
    go_wp2_with fail
    exact ⟨rfl, ⟨G3.out, by rw [HO.out]; rfl⟩⟩
end Go.Proofs.YtepcaglekgeamaaGreatDoor
namespace Go.Proofs.YtepcaglekgeamaaGreatDoor
open Go.RowKit

def InS (S : Nat → Prop) (v : Value) (n : Nat) : Prop := 0 < n → ∃ b o k c, v = .slice (some ⟨b, o, none⟩) k c ∧ S b
inductive ValIn (S : Nat → Prop) (w : World) : Value → Val → Prop where
  | mk (kind n : Int) (s : ByteArray) (iv nv : Value) (items : List Val) (names : List ByteArray) (ev : Nat → Value)
      (hk : -9223372036854775808 ≤ kind ∧ kind ≤ 9223372036854775807) (hn : -9223372036854775808 ≤ n ∧ n ≤ 9223372036854775807) (hs : s.size ≤ maxLen)
      (hN : StrsAt w nv names) (hNS : InS S nv names.length) (hz : ∀ x ∈ names, x.size ≤ maxLen) (hI : Fives w iv items.length ev) (hIS : InS S iv items.length)
      (hsub : ∀ (i : Nat) (h : i < items.length), ValIn S w (ev i) items[i]) :
      ValIn S w (.agg #[.int .i64 kind, .int .i64 n, .string s, iv, nv]) (.mk kind n s items names)

theorem ValIn.isVal {S : Nat → Prop} {w : World} : ∀ {v : Value} {T : Val}, ValIn S w v T → IsVal w v T := by
  intro v T h
  induction h with
  | mk kind n s iv nv items names ev hk hn hs hN _ hz hI _ _ ih => exact .mk kind n s iv nv items names ev hk hn hs hN hz hI ih

theorem StrsAt.keepB {w w' : World} {v : Value} {ss : List ByteArray} (h : StrsAt w v ss) (hb : ∀ b o k c, v = .slice (some ⟨b, o, none⟩) k c → 0 < ss.length → b < w.heap.size → w'.heap[b]? = w.heap[b]?) : StrsAt w' v ss := by
  rcases h with h | ⟨b, o, cap, h1, h2, h3, h4, h5⟩
  · exact Or.inl h
  · refine Or.inr ⟨b, o, cap, h1, h2, h3, h4, fun i hi => ?_⟩
    exact (World.cell?_of_block (a := ⟨b, o + i, none⟩) (hb b o _ _ h1 h2 (World.block_lt_of_cell? _ _ (h5 i hi)))).trans (h5 i hi)

theorem Fives.keepB {w w' : World} {iv : Value} {n : Nat} {ev : Nat → Value} (h : Fives w iv n ev) (hb : ∀ b o k c, iv = .slice (some ⟨b, o, none⟩) k c → 0 < n → b < w.heap.size → w'.heap[b]? = w.heap[b]?) : Fives w' iv n ev := by
  rcases h with h | ⟨b, o, cap, h1, h2, h3, h4, h5⟩
  · exact Or.inl h
  · refine Or.inr ⟨b, o, cap, h1, h2, h3, h4, fun i hi => ?_⟩
    obtain ⟨c0, c1, c2, c3, c4, e, k0, k1, k2, k3, k4⟩ := h5 i hi
    have hbb := hb b o _ _ h1 h2 (World.block_lt_of_cell? _ _ k0)
    have k : ∀ {j : Nat} {v : Value}, w.cell? ⟨b, j, none⟩ = some v → w'.cell? ⟨b, j, none⟩ = some v := fun {j _} hc => (World.cell?_of_block (a := ⟨b, j, none⟩) hbb).trans hc
    exact ⟨c0, c1, c2, c3, c4, e, k k0, k k1, k k2, k k3, k k4⟩

theorem StrsAt.lt {w : World} {ss : List ByteArray} {b o k c : Nat} (h : StrsAt w (.slice (some ⟨b, o, none⟩) k c) ss) (h0 : 0 < ss.length) : b < w.heap.size := by
  rcases h with ⟨rfl, _⟩ | ⟨b', o', cap, h1, h2, h3, h4, h5⟩
  · simp at h0
  · simp only [Value.slice.injEq, Option.some.injEq, Addr.mk.injEq] at h1
    obtain ⟨⟨rfl, _⟩, _⟩ := h1
    exact World.block_lt_of_cell? _ _ (h5 0 h0)

theorem Fives.lt {w : World} {n : Nat} {ev : Nat → Value} {b o k c : Nat} (h : Fives w (.slice (some ⟨b, o, none⟩) k c) n ev) (h0 : 0 < n) : b < w.heap.size := by
  rcases h with ⟨rfl, _⟩ | ⟨b', o', cap, h1, h2, h3, h4, h5⟩
  · omega
  · simp only [Value.slice.injEq, Option.some.injEq, Addr.mk.injEq] at h1
    obtain ⟨⟨rfl, _⟩, _⟩ := h1
    obtain ⟨c0, c1, c2, c3, c4, e, k0, _⟩ := h5 0 h0
    exact World.block_lt_of_cell? _ _ k0

theorem ValIn.keep {S S' : Nat → Prop} {w w' : World} (hb : ∀ b, S b → b < w.heap.size → w'.heap[b]? = w.heap[b]? ∧ S' b) : ∀ {v : Value} {T : Val}, ValIn S w v T → ValIn S' w' v T := by
  intro v T h
  induction h with
  | mk kind n s iv nv items names ev hk hn hs hN hNS hz hI hIS _ ih =>
    refine .mk kind n s iv nv items names ev hk hn hs (hN.keepB ?_) ?_ hz (hI.keepB ?_) ?_ ih
    · intro b o k c e h0 hlt
      obtain ⟨b', o', k', c', e', hS⟩ := hNS h0
      rw [e'] at e
      simp only [Value.slice.injEq, Option.some.injEq, Addr.mk.injEq] at e
      obtain ⟨⟨rfl, _⟩, _⟩ := e
      exact (hb _ hS hlt).1
    · intro h0
      obtain ⟨b', o', k', c', rfl, hS⟩ := hNS h0
      exact ⟨b', o', k', c', rfl, (hb _ hS (hN.lt h0)).2⟩
    · intro b o k c e h0 hlt
      obtain ⟨b', o', k', c', e', hS⟩ := hIS h0
      rw [e'] at e
      simp only [Value.slice.injEq, Option.some.injEq, Addr.mk.injEq] at e
      obtain ⟨⟨rfl, _⟩, _⟩ := e
      exact (hb _ hS hlt).1
    · intro h0
      obtain ⟨b', o', k', c', rfl, hS⟩ := hIS h0
      exact ⟨b', o', k', c', rfl, (hb _ hS (hI.lt h0)).2⟩

theorem ValIn.plain (S : Nat → Prop) (w : World) (kind n : Int) (s : ByteArray) (hk : -9223372036854775808 ≤ kind ∧ kind ≤ 9223372036854775807) (hn : -9223372036854775808 ≤ n ∧ n ≤ 9223372036854775807) (hs : s.size ≤ maxLen) :
    ValIn S w (.agg #[.int .i64 kind, .int .i64 n, .string s, .slice none 0 0, .slice none 0 0]) (.mk kind n s [] []) :=
  .mk kind n s _ _ [] [] (fun _ => undef) hk hn hs (Or.inl ⟨rfl, Or.inl rfl⟩) (fun h => absurd h (by simp)) (by simp) (Or.inl ⟨rfl, Or.inl rfl⟩) (fun h => absurd h (by simp)) (fun i h => absurd h (by simp))

def FiveAt (xs : List Value) (i : Nat) (c0 c1 c2 c3 c4 : Value) : Prop := xs[i * 5]? = some c0 ∧ xs[i * 5 + 1]? = some c1 ∧ xs[i * 5 + 2]? = some c2 ∧ xs[i * 5 + 3]? = some c3 ∧ xs[i * 5 + 4]? = some c4

structure RowOf (base : Nat) (w : World) (hv : Value) (nb : Option Nat) (ts : List Val) (xs : List Value) : Prop where
  own : w.ownsRow base 71 5 hv ts.length xs
  apart : ∀ k, hv.ownBlock = some k → nb ≠ some k
  sub : ∀ (i : Nat) (h : i < ts.length), ∃ c0 c1 c2 c3 c4, FiveAt xs i c0 c1 c2 c3 c4 ∧ ValIn (fun b => base ≤ b ∧ some b ≠ hv.ownBlock ∧ some b ≠ nb) w (.agg #[c0, c1, c2, c3, c4]) ts[i]

theorem RowOf.start (base : Nat) (w : World) (nb : Option Nat) : RowOf base w (.slice none 0 0) nb [] [] := ⟨World.ownsRow_nil _ _ _ _, (fun k h => by cases h), fun i h => absurd h (by simp)⟩

theorem RowOf.keep {base : Nat} {w w' : World} {hv : Value} {nb nb' : Option Nat} {ts : List Val} {xs : List Value} (h : RowOf base w hv nb ts xs) (hg : ∀ k, base ≤ k → k < w.heap.size → nb ≠ some k → w'.heap[k]? = w.heap[k]?) (hnb : nb' = nb ∨ ∀ k, nb' = some k → w.heap.size ≤ k) : RowOf base w' hv nb' ts xs := by
  refine ⟨?_, fun k hk e => ?_, fun i hi => ?_⟩
  · obtain ⟨h1, h2⟩ := h.own
    refine ⟨h1, ?_⟩
    rcases h2 with h2 | ⟨g, cap, cur, e, hb, hc, r⟩
    · exact Or.inl h2
    · exact Or.inr ⟨g, cap, cur, e, hb, (hg g hb (Array.getElem?_eq_some_iff.1 hc).1 (h.apart g (by rw [e]; rfl))).trans hc, r⟩
  · have hlt := (h.own.lt k hk).2
    rcases hnb with rfl | hnb
    · exact h.apart k hk e
    · have := hnb k e; omega
  · obtain ⟨c0, c1, c2, c3, c4, hf, hv⟩ := h.sub i hi
    refine ⟨c0, c1, c2, c3, c4, hf, hv.keep fun b hS hlt => ⟨hg b hS.1 hlt (fun e => hS.2.2 e.symm), hS.1, hS.2.1, fun e => ?_⟩⟩
    rcases hnb with rfl | hnb
    · exact hS.2.2 e
    · have := hnb b e.symm; omega

theorem FiveAt.left {xs ys : List Value} {i : Nat} {c0 c1 c2 c3 c4 : Value} (h : FiveAt xs i c0 c1 c2 c3 c4) : FiveAt (xs ++ ys) i c0 c1 c2 c3 c4 := by
  obtain ⟨h0, h1, h2, h3, h4⟩ := h
  have k : ∀ {j : Nat} {u : Value}, xs[j]? = some u → (xs ++ ys)[j]? = some u := fun {j u} h => by
    rw [List.getElem?_append_left (List.getElem?_eq_some_iff.1 h).1]; exact h
  exact ⟨k h0, k h1, k h2, k h3, k h4⟩

theorem FiveAt.last (xs : List Value) (n : Nat) (hx : xs.length = n * 5) (c0 c1 c2 c3 c4 : Value) : FiveAt (xs ++ [c0, c1, c2, c3, c4]) n c0 c1 c2 c3 c4 := by
  have k : ∀ j, (xs ++ [c0, c1, c2, c3, c4])[n * 5 + j]? = [c0, c1, c2, c3, c4][j]? := fun j => by
    rw [List.getElem?_append_right (by omega)]; congr 1; omega
  exact ⟨k 0, k 1, k 2, k 3, k 4⟩

theorem RowOf.push {base n0 : Nat} {w2 w4 : World} {hv : Value} {ts : List Val} {xs : List Value} {nb : Option Nat} {g cap : Nat} {c0 c1 c2 c3 c4 : Value} {T : Val} (h : RowOf base w2 hv nb ts xs) (hn0 : base ≤ n0) (hn2 : n0 ≤ w2.heap.size) (hnb : ∀ k, nb = some k → k < n0)
    (hold : ∀ k, hv.ownBlock = some k → k < n0) (hT : ValIn (fun b => n0 ≤ b) w2 (.agg #[c0, c1, c2, c3, c4]) T)
    (hown : w4.ownsRow base 71 5 (.slice (some ⟨g, 0, none⟩) (ts.length + 1) cap) (ts.length + 1) (xs ++ [c0, c1, c2, c3, c4]))
    (hat : hv.ownBlock = some g ∨ w2.heap.size ≤ g) (hb : ∀ k, base ≤ k → k < w2.heap.size → k ≠ g → some k ≠ hv.ownBlock → w4.heap[k]? = w2.heap[k]?) :
    RowOf base w4 (.slice (some ⟨g, 0, none⟩) (ts.length + 1) cap) nb (ts ++ [T]) (xs ++ [c0, c1, c2, c3, c4]) := by
  refine ⟨by rw [List.length_append]; exact hown, fun k hk e => ?_, fun i hi => ?_⟩
  · obtain rfl : g = k := Option.some.inj hk
    rcases hat with h1 | h1
    · exact h.apart g h1 e
    · have := hnb g e; omega
  have hx := h.own.1
  by_cases hlt : i < ts.length
  · obtain ⟨d0, d1, d2, d3, d4, hf, hd⟩ := h.sub i hlt
    rw [List.getElem_append_left hlt]
    refine ⟨d0, d1, d2, d3, d4, hf.left, hd.keep fun b hS hl => ?_⟩
    have hbg : b ≠ g := fun e => by
      rcases hat with h | h
      · exact hS.2.1 (by rw [h, e])
      · omega
    exact ⟨hb b hS.1 hl hbg hS.2.1, hS.1, by show some b ≠ some g; exact fun e => hbg (Option.some.inj e), hS.2.2⟩
  · obtain rfl : i = ts.length := by simp at hi; omega
    refine ⟨c0, c1, c2, c3, c4, FiveAt.last xs ts.length hx .., ?_⟩
    rw [List.getElem_append_right (Nat.le_refl _)]
    simp only [Nat.sub_self, List.getElem_cons_zero]
    refine hT.keep fun b hS hl => ?_
    have hbo : some b ≠ hv.ownBlock := fun e => by have := hold b e.symm; omega
    have hbg : b ≠ g := fun e => by
      rcases hat with h | h
      · exact hbo (by rw [h, e])
      · omega
    exact ⟨hb b (Nat.le_trans hn0 hS) hl hbg hbo, Nat.le_trans hn0 hS, by show some b ≠ some g; exact fun e => hbg (Option.some.inj e), fun e => by have := hnb b e.symm; omega⟩

theorem RowOf.fives {base : Nat} {w : World} {hv : Value} {nb : Option Nat} {ts : List Val} {xs : List Value} (h : RowOf base w hv nb ts xs) :
    ∃ ev, Fives w hv ts.length ev ∧ InS (fun b => base ≤ b) hv ts.length ∧ ∀ (i : Nat) (hi : i < ts.length), ValIn (fun b => base ≤ b) w (ev i) ts[i] := by
  refine ⟨fun i => .agg #[xs.getD (i * 5) undef, xs.getD (i * 5 + 1) undef, xs.getD (i * 5 + 2) undef, xs.getD (i * 5 + 3) undef, xs.getD (i * 5 + 4) undef], ?_, ?_, ?_⟩
  · obtain ⟨hl, h2⟩ := h.own
    rcases h2 with ⟨rfl, h0⟩ | ⟨g, cap, cur, rfl, hb, hc, h3, h4, h5, h6⟩
    · exact Or.inl ⟨h0, Or.inl rfl⟩
    · by_cases h0 : ts.length = 0
      · exact Or.inl ⟨h0, Or.inr ⟨⟨g, 0, none⟩, cap, by rw [h0], h4⟩⟩
      · refine Or.inr ⟨g, 0, cap, rfl, by omega, h3, h4, fun i hi => ?_⟩
        have k : ∀ j, j < 5 → w.cell? ⟨g, 0 + i * 5 + j, none⟩ = some (xs.getD (i * 5 + j) undef) := fun j hj => by
          have := h.own.cellAt (i * 5 + j) (by omega)
          rw [show 0 + i * 5 + j = i * 5 + j by omega, this, List.getD_eq_getElem?_getD, List.getElem?_eq_getElem (by omega)]
          rfl
        exact ⟨_, _, _, _, _, rfl, k 0 (by omega), k 1 (by omega), k 2 (by omega), k 3 (by omega), k 4 (by omega)⟩
  · intro h0
    obtain ⟨hl, h2⟩ := h.own
    rcases h2 with ⟨rfl, h1⟩ | ⟨g, cap, cur, rfl, hb, _⟩
    · omega
    · exact ⟨g, 0, _, cap, rfl, hb⟩
  · intro i hi
    obtain ⟨c0, c1, c2, c3, c4, ⟨f0, f1, f2, f3, f4⟩, hv⟩ := h.sub i hi
    have e : ∀ {j : Nat} {u : Value}, xs[j]? = some u → xs.getD j undef = u := fun {j u} h => by rw [List.getD_eq_getElem?_getD, h]; rfl
    show ValIn _ w (.agg #[xs.getD (i * 5) undef, xs.getD (i * 5 + 1) undef, xs.getD (i * 5 + 2) undef, xs.getD (i * 5 + 3) undef, xs.getD (i * 5 + 4) undef]) _
    rw [e f0, e f1, e f2, e f3, e f4]
    exact hv.keep fun b hS _ => ⟨rfl, hS.1⟩
end Go.Proofs.YtepcaglekgeamaaGreatDoor
