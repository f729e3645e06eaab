/-
  The laws' few of a disk, by a contract. Conditions: none.
  The laws' alive of a disk, by a contract. Conditions: none.
  Plain facts of disks: what is saved, flushed, crashed. Conditions: none.
  Plain functions on rows of bytes: entries of however many, heads, sectors, what is laid into a room. Conditions: none.
  Ledgers on disks as plain data: a half's room and head, what a disk has, what calls lay. Conditions: none.
  What calls lay on a disk as plain data: steps, what becomes of them when they are saved and flushed, and when a crash comes. Conditions: none.
  Ledgers in memory; blocks of six cells; what stays when such a block is written anew; a ledger as a result. Conditions: none.
  The program's small functions of heads: whole, wide, sector, headText, size, firstEnd, by contracts. Conditions: numbers that have room; octet's errors lie where they lie.
  The program's halfOf, room and firstEnd, by contracts. Conditions: the disk may be.
  The program's told, by a contract: what a half's head tells. Conditions: the disk may be; octet's errors lie where they lie.
  The program's firstEnd and loose, by contracts: entries of however many. Conditions: a room's bytes are not too many; octet's errors lie where they lie.
  The program's Open of a disk, by a contract. Conditions: octet's errors lie where they lie.
-/
import Derived.Test.YtkplpodljmlanaaGreatDoorZDsk2
import Derived.Lib.MinMax
import Derived.Test.YtkplpodljmlanaaGreatDoorZDsk3
import Derived.Test.YtkplpodljmlanaaGreatDoorZDsk1
import Derived.Test.YtkplpodljmlanaaGreatDoorZOct1
import Derived.Test.YtkplpodljmlanaaGreatDoorZOct2
import Derived.Deep.RegionHeld3
import Derived.Deep.AppendLies
/-! The laws' few of a disk, by a contract. Conditions: none. -/
namespace Go.Proofs.YtkplpodljmlanaaGreatDoor
open Go.RowKit Go.WideShapes

def fewD (d : Dsk) : Dsk := ⟨d.secs.take 66, d.dirty.take 202⟩
theorem StrsAt.shape2 {w : World} {v : Value} {l : List ByteArray} (h : StrsAt w v l) : ∃ a cap, v = .slice a l.length cap ∧ l.length ≤ cap ∧ cap ≤ maxLen := by
  rcases h with ⟨rfl, rfl | ⟨a, cap, rfl, hc⟩⟩ | ⟨b, o, cap, rfl, h2, h3, h4, -⟩
  · exact ⟨none, 0, rfl, Nat.le_refl _, by decide⟩
  · exact ⟨_, _, rfl, Nat.zero_le _, hc⟩
  · exact ⟨_, _, rfl, h3, h4⟩
theorem PairsAt.shape3 {w : World} {v : Value} {l : List (Value × Value)} (h : PairsAt w v l) : ∃ a cap, v = .slice a l.length cap ∧ l.length ≤ cap ∧ cap ≤ maxLen := by
  rcases h with ⟨rfl, rfl | ⟨a, cap, rfl, hc⟩⟩ | ⟨b, o, cap, rfl, h2, h3, h4, -⟩
  · exact ⟨none, 0, rfl, Nat.le_refl _, by decide⟩
  · exact ⟨_, _, rfl, Nat.zero_le _, hc⟩
  · exact ⟨_, _, rfl, h3, h4⟩
theorem StrsAt.take {w : World} {a : Option Addr} {n c : Nat} {l : List ByteArray} (h : StrsAt w (.slice a n c) l) (hn : l.length = n) (k : Nat) (hk : k ≤ n) (l' : List ByteArray) (hl : l' = l.take k) : StrsAt w (.slice a k c) l' := by
  subst hl
  subst hn
  rcases h with ⟨rfl, e⟩ | ⟨b, o, cap, e, h2, h3, h4, h5⟩
  · obtain rfl : k = 0 := by simpa using hk
    refine Or.inl ⟨rfl, ?_⟩
    rcases e with e | ⟨a2, cap, e, hc⟩
    · exact Or.inl (by simpa using e)
    · exact Or.inr ⟨a2, cap, by simpa using e, hc⟩
  · simp only [Value.slice.injEq] at e
    obtain ⟨rfl, -, rfl⟩ := e
    have hl : (l.take k).length = k := by rw [List.length_take]; omega
    rcases Nat.eq_zero_or_pos k with rfl | hp
    · exact Or.inl ⟨rfl, Or.inr ⟨_, _, rfl, h4⟩⟩
    · refine Or.inr ⟨b, o, c, by rw [hl], by omega, by omega, h4, fun i hi => ?_⟩
      rw [List.getElem_take]
      exact h5 i (by omega)
theorem PairsAt.take {w : World} {a : Option Addr} {n c : Nat} {l : List (Value × Value)} (h : PairsAt w (.slice a n c) l) (hn : l.length = n) (k : Nat) (hk : k ≤ n) (l' : List (Value × Value)) (hl : l' = l.take k) : PairsAt w (.slice a k c) l' := by
  subst hl
  subst hn
  rcases h with ⟨rfl, e⟩ | ⟨b, o, cap, e, h2, h3, h4, h5⟩
  · obtain rfl : k = 0 := by simpa using hk
    refine Or.inl ⟨rfl, ?_⟩
    rcases e with e | ⟨a2, cap, e, hc⟩
    · exact Or.inl (by simpa using e)
    · exact Or.inr ⟨a2, cap, by simpa using e, hc⟩
  · simp only [Value.slice.injEq] at e
    obtain ⟨rfl, -, rfl⟩ := e
    have hl : (l.take k).length = k := by rw [List.length_take]; omega
    rcases Nat.eq_zero_or_pos k with rfl | hp
    · exact Or.inl ⟨rfl, Or.inr ⟨_, _, rfl, h4⟩⟩
    · refine Or.inr ⟨b, o, c, by rw [hl], by omega, by omega, h4, fun i hi => ?_⟩
      simp only [List.getElem_take]
      exact h5 i (by omega)
end Go.Proofs.YtkplpodljmlanaaGreatDoor
/-! The laws' alive of a disk, by a contract. Conditions: none. -/
namespace Go.Proofs.YtkplpodljmlanaaGreatDoor
open Go.RowKit Go.WideShapes

/-! ### Plain -/
def dA : Dsk := ⟨List.replicate 4 (secB 0), []⟩
def dB : Dsk := ⟨List.replicate 4 (secB 0), [(1, secB 120)]⟩
def dC : Dsk := clean 4 (fun k => dB.left k [2])
theorem newD_4 : newD 4 = (dA, 0) := rfl
theorem dA_right : dA.right = true := by
  refine (right_iff dA).2 ⟨fun s hs => ?_, by decide, by decide, by decide, fun w hw => by cases hw⟩
  rw [List.eq_of_mem_replicate hs]; exact secB_size 0
theorem dB_right : dB.right = true := by
  refine (right_iff dB).2 ⟨fun s hs => ?_, by decide, by decide, by decide, fun w hw => ?_⟩
  · rw [List.eq_of_mem_replicate hs]; exact secB_size 0
  · rw [List.mem_singleton.1 hw]
    exact ⟨by decide, by decide, secB_size 120⟩
theorem saveD_A : saveD dA [(1, secB 120)] = (dB, 0) := by
  unfold saveD
  rw [dA_right, show wellB dA.secs.length [((1 : Int), secB 120)] = true from (well_iff _ _).2 (fun w hw => by
    rw [List.mem_singleton.1 hw]
    exact ⟨by decide, by decide, secB_size 120⟩)]
  rfl
theorem crashD_B : crashD dB [2] = (dC, 0) := by
  unfold crashD
  rw [dB_right]
  rfl
theorem dC_right : dC.right = true := by
  have hB := (right_iff dB).1 dB_right
  refine (right_iff dC).2 ⟨fun s hs => ?_, by decide, by decide, by decide, fun w hw => by cases hw⟩
  simp only [dC, clean, List.mem_map, List.mem_range] at hs
  obtain ⟨i, hi, rfl⟩ := hs
  exact dleft_size hB [2] (by exact hi)
def aliveS : ByteArray := (secB 120).extract 0 64 ++ (secB 0).extract 64 128
theorem loadD_C : loadD dC 1 = (aliveS, 0) := by
  unfold loadD
  rw [dC_right]
  rfl
theorem aliveS_size : aliveS.size = 128 := by
  simp [aliveS, ByteArray.size_append, ByteArray.size_extract, secB_size]
theorem sec0_size : (secB 0).size = 128 := secB_size 0
theorem sec120_size : (secB 120).size = 128 := secB_size 120

/-! ### A variable that holds a disk -/
def DskIn (w : World) (B : Nat) (d : Dsk) : Prop := ∃ a c a' c', At2 25 w B (.slice a d.secs.length c) (.slice a' d.dirty.length c') ∧ DskAt w (.agg #[.slice a d.secs.length c, .slice a' d.dirty.length c']) d
theorem DskIn.keep {w w' : World} {B : Nat} {d : Dsk} (h : DskIn w B d) (hb : Below w.heap.size w w') : DskIn w' B d := by
  obtain ⟨a, c, a', c', h1, h2⟩ := h
  exact ⟨a, c, a', c', h1.keep hb, h2.keep hb⟩
theorem DskIn.lt {w : World} {B : Nat} {d : Dsk} (h : DskIn w B d) : B < w.heap.size := by
  obtain ⟨a, c, a', c', h1, h2⟩ := h
  exact h1.lt
theorem DskIn.new {w : World} {v0 v1 : Value} {d : Dsk} (h : DskAt w (.agg #[v0, v1]) d) : DskIn (w.alloc (.cells #[v0, v1] 25)) w.heap.size d := by
  obtain ⟨a, c, a', c', e, -, -⟩ := h.shape
  simp only [Value.agg.injEq, Array.mk.injEq, List.cons.injEq, and_true] at e
  obtain ⟨rfl, rfl⟩ := e
  exact ⟨a, c, a', c', At2.new _ _ _ _, h.keep (below_new _ _)⟩
theorem DskIn.set {w : World} {B : Nat} {v0 v1 : Value} {d0 d : Dsk} (h0 : DskIn w B d0) (h : DskAt w (.agg #[v0, v1]) d) : DskIn (set2 w B v0 v1) B d := by
  obtain ⟨a, c, a', c', e, -, -⟩ := h.shape
  simp only [Value.agg.injEq, Array.mk.injEq, List.cons.injEq, and_true] at e
  obtain ⟨rfl, rfl⟩ := e
  obtain ⟨b, k, b', k', h1, -⟩ := h0
  exact ⟨a, c, a', c', h1.set _ _, h.ns (set2_ns h1 (isSl_mk _ _ _) (isSl_mk _ _ _) _ _)⟩
theorem DskIn.other {w : World} {B B' : Nat} {d d0 : Dsk} (h : DskIn w B d) (h0 : DskIn w B' d0) (hne : B ≠ B') (v0 v1 : Value) : DskIn (set2 w B' v0 v1) B d := by
  obtain ⟨a, c, a', c', h1, h2⟩ := h
  obtain ⟨b, k, b', k', h3, -⟩ := h0
  exact ⟨a, c, a', c', h1.other hne _ _, h2.ns (set2_ns h3 (isSl_mk _ _ _) (isSl_mk _ _ _) _ _)⟩

end Go.Proofs.YtkplpodljmlanaaGreatDoor
/-! Plain facts of disks: what is saved, flushed, crashed. Conditions: none. -/
namespace Go.Proofs.YtkplpodljmlanaaGreatDoor
open Go.RowKit Go.WideShapes

def addW (d : Dsk) (w : Int × ByteArray) : Dsk := ⟨d.secs, d.dirty ++ [w]⟩
theorem addW_right {d : Dsk} (h : RightIs d) (w : Int × ByteArray) (hl : d.dirty.length < 200) (h0 : 0 ≤ w.1) (h1 : w.1 < (d.secs.length : Int)) (h2 : w.2.size = 128) : RightIs (addW d w) :=
  ⟨h.secs, h.least, h.most, by show (d.dirty ++ [w]).length ≤ 200; rw [List.length_append]; exact hl, fun x hx => by
    rcases List.mem_append.1 hx with hx | hx
    · exact h.well x hx
    · rw [List.mem_singleton.1 hx]; exact ⟨h0, h1, h2⟩⟩
theorem addW_stands (d : Dsk) (w : Int × ByteArray) (k : Nat) : (addW d w).stands k = if w.1 = (k : Int) then w.2 else d.stands k := standsL_snoc k w d.dirty _
theorem saveD_one {d : Dsk} (h : RightIs d) (w : Int × ByteArray) (hl : d.dirty.length < 200) (h0 : 0 ≤ w.1) (h1 : w.1 < (d.secs.length : Int)) (h2 : w.2.size = 128) : saveD d [w] = (addW d w, 0) := by
  unfold saveD
  rw [(right_iff d).2 h, show wellB d.secs.length [w] = true from (well_iff _ _).2 (fun x hx => by rw [List.mem_singleton.1 hx]; exact ⟨h0, h1, h2⟩), Bool.and_self, if_pos rfl, if_pos (by rw [List.length_singleton]; exact hl)]
  rfl
theorem loadD_ok {d : Dsk} (h : RightIs d) (k : Nat) (hk : k < d.secs.length) : loadD d (k : Int) = (d.stands k, 0) := by
  unfold loadD
  rw [(right_iff d).2 h, show placeB d.secs.length (k : Int) = true by simp [placeB, hk], Bool.and_self, if_pos rfl]
  rfl
theorem flushD_ok {d : Dsk} (h : RightIs d) : flushD d = (clean d.secs.length d.stands, 0) := by rw [flushD, (right_iff d).2 h, if_pos rfl]
theorem crashD_ok {d : Dsk} (h : RightIs d) (fs : List Int) : crashD d fs = (clean d.secs.length (fun k => d.left k fs), 0) := by rw [crashD, (right_iff d).2 h, if_pos rfl]
theorem clean_length (n : Nat) (f : Nat → ByteArray) : (clean n f).secs.length = n := by simp [clean]
theorem clean_right {n : Nat} {f : Nat → ByteArray} (h4 : 4 ≤ n) (h64 : n ≤ 64) (hz : ∀ i, i < n → (f i).size = 128) : RightIs (clean n f) :=
  ⟨fun s hs => by
    simp only [clean, List.mem_map, List.mem_range] at hs
    obtain ⟨i, hi, rfl⟩ := hs
    exact hz i hi, by rw [clean_length]; exact h4, by rw [clean_length]; exact h64, Nat.zero_le 200, fun w hw => by cases hw⟩
theorem clean_sec {n : Nat} {f : Nat → ByteArray} {k : Nat} (hk : k < n) : (clean n f).secs.getD k ⟨#[]⟩ = f k := by simp [clean, List.getD, hk]
theorem clean_congr {n : Nat} {f g : Nat → ByteArray} (h : ∀ k, k < n → f k = g k) : clean n f = clean n g := by
  unfold clean
  congr 1
  exact List.map_congr_left fun k hk => h k (List.mem_range.1 hk)
theorem clean_self {n : Nat} {f : Nat → ByteArray} : clean n (clean n f).stands = clean n f := clean_congr fun k hk => by
  show standsL k ((clean n f).secs.getD k ⟨#[]⟩) [] = _
  rw [clean_sec hk]; rfl
theorem clean_left {n : Nat} {f : Nat → ByteArray} (fs : List Int) : clean n (fun k => (clean n f).left k fs) = clean n f := clean_congr fun k hk => by
  show leftL k ((clean n f).secs.getD k ⟨#[]⟩) [] fs = _
  rw [clean_sec hk]; cases fs <;> rfl
theorem flush_clean {n : Nat} {f : Nat → ByteArray} (h : RightIs (clean n f)) : flushD (clean n f) = (clean n f, 0) := by
  rw [flushD_ok h, clean_length, clean_self]
theorem crash_clean {n : Nat} {f : Nat → ByteArray} (h : RightIs (clean n f)) (fs : List Int) : crashD (clean n f) fs = (clean n f, 0) := by
  rw [crashD_ok h, clean_length, clean_left]
theorem fewD_few (d : Dsk) : (fewD d).dirty.length ≤ 202 := by simp [fewD]; omega

/-- A place out of any number, as the laws make it. -/
theorem place_of (a : Int) (n : Nat) (h4 : 4 ≤ n) :
    ∃ (r : Int) (k : Nat), a.tmod (n : Int) = r ∧ -(n : Int) < r ∧ r < (n : Int) ∧ (r + (n : Int)).tmod (n : Int) = (k : Int) ∧ k < n := by
  have hn : (0 : Int) < (n : Int) := by omega
  have b1 := Int.tmod_lt_of_pos a hn
  have b0 : -(n : Int) < a.tmod (n : Int) := by
    rcases Int.le_total 0 a with h | h
    · have := Int.tmod_nonneg (n : Int) h; omega
    · have e : a.tmod (n : Int) = -((-a).tmod (n : Int)) := by rw [Int.neg_tmod, Int.neg_neg]
      have := Int.tmod_lt_of_pos (-a) hn
      rw [e]; omega
  have c0 : 0 ≤ a.tmod (n : Int) + (n : Int) := by omega
  have d0 := Int.tmod_nonneg (n : Int) c0
  have d1 := Int.tmod_lt_of_pos (a.tmod (n : Int) + (n : Int)) hn
  exact ⟨a.tmod (n : Int), ((a.tmod (n : Int) + (n : Int)).tmod (n : Int)).toNat, rfl, b0, b1, by omega, by omega⟩
end Go.Proofs.YtkplpodljmlanaaGreatDoor
/-! Plain functions on rows of bytes: entries of however many, heads, sectors, what is laid into a room. Conditions: none. -/
namespace Go.Proofs.YtkplpodljmlanaaGreatDoor

/-! ### Entries -/
/-- Taking a row of bytes apart, however many texts. -/
def entGo : Nat → List UInt8 → List ByteArray → Option (List ByteArray)
  | 0, _, acc => some acc
  | f + 1, l, acc => if l = [] then some acc else if l.length < 2 ∨ 4096 < numL (l.take 2) ∨ l.length - 2 < numL (l.take 2) then none
    else entGo f ((l.drop 2).drop (numL (l.take 2))) (acc ++ [⟨((l.drop 2).take (numL (l.take 2))).toArray⟩])
def entL (l : List UInt8) : Option (List ByteArray) := entGo (l.length + 1) l []
theorem entGo_nil (f : Nat) (acc : List ByteArray) : entGo f [] acc = some acc := by cases f <;> simp [entGo]
theorem entGo_no (f : Nat) (l : List UInt8) (acc : List ByteArray) (h0 : l ≠ []) (h : l.length < 2 ∨ 4096 < numL (l.take 2) ∨ l.length - 2 < numL (l.take 2)) : entGo (f + 1) l acc = none := by
  rw [entGo, if_neg h0, if_pos h]
theorem entGo_more (f : Nat) (l : List UInt8) (acc : List ByteArray) (h : ¬ (l.length < 2 ∨ 4096 < numL (l.take 2) ∨ l.length - 2 < numL (l.take 2))) :
    entGo (f + 1) l acc = entGo f ((l.drop 2).drop (numL (l.take 2))) (acc ++ [⟨((l.drop 2).take (numL (l.take 2))).toArray⟩]) := by
  have h0 : l ≠ [] := by rintro rfl; simp at h
  rw [entGo, if_neg h0, if_neg h]
theorem entGo_fuel : ∀ (f g : Nat) (l : List UInt8) (acc : List ByteArray), l.length < f → f ≤ g → entGo g l acc = entGo f l acc
  | 0, _, l, _, h, _ => by omega
  | f + 1, 0, l, _, _, h => by omega
  | f + 1, g + 1, l, acc, h, hg => by
    by_cases h0 : l = []
    · subst h0; rw [entGo_nil, entGo_nil]
    by_cases h1 : l.length < 2 ∨ 4096 < numL (l.take 2) ∨ l.length - 2 < numL (l.take 2)
    · rw [entGo_no _ _ _ h0 h1, entGo_no _ _ _ h0 h1]
    rw [entGo_more _ _ _ h1, entGo_more _ _ _ h1]
    exact entGo_fuel f g _ _ (by simp; omega) (by omega)
theorem entGo_bind : ∀ (ss : List ByteArray) (q : List UInt8) (acc : List ByteArray) (f : Nat), (∀ s ∈ ss, s.size ≤ 4096) → (bindL ss ++ q).length < f →
    entGo f (bindL ss ++ q) acc = entGo f q (acc ++ ss)
  | [], q, acc, f, _, _ => by simp [bindL]
  | s :: r, q, acc, 0, _, hf => by omega
  | s :: r, q, acc, f + 1, hs, hf => by
    have h1 := hs s (by simp)
    have e : bindL (s :: r) ++ q = wideL s.size 2 ++ (s.data.toList ++ (bindL r ++ q)) := by simp [bindL]
    have ht : (bindL (s :: r) ++ q).take 2 = wideL s.size 2 := by rw [e, List.take_left' (wideL_length _ _)]
    have hd : (bindL (s :: r) ++ q).drop 2 = s.data.toList ++ (bindL r ++ q) := by rw [e, List.drop_left' (wideL_length _ _)]
    have hn : numL ((bindL (s :: r) ++ q).take 2) = s.size := by rw [ht, numL_two _ (by omega)]
    have hlen : (bindL (s :: r) ++ q).length = 2 + s.size + (bindL r ++ q).length := by
      rw [e, List.length_append, List.length_append, wideL_length, toList_size]; omega
    rw [entGo_more _ _ _ (by rw [hn]; omega), hn, hd, List.drop_left' (toList_size s), List.take_left' (toList_size s), mk_toList]
    rw [entGo_bind r q (acc ++ [s]) f (fun x hx => hs x (by simp [hx])) (by omega)]
    rw [List.append_assoc, List.singleton_append]
    have hq : q.length ≤ (bindL r ++ q).length := by simp
    exact (entGo_fuel (q.length + 1) f _ _ (by omega) (by omega)).trans (entGo_fuel (q.length + 1) (f + 1) _ _ (by omega) (by omega)).symm
theorem wide_two (a b : UInt8) : wideL (numL [a, b]) 2 = [a, b] := by
  have ha := a.toNat_lt
  have hb := b.toNat_lt
  rw [wideL_two]
  simp only [numL]
  rw [show (a.toNat + 256 * (b.toNat + 256 * 0)) % 256 = a.toNat by omega, show (a.toNat + 256 * (b.toNat + 256 * 0)) / 256 % 256 = b.toNat by omega]
  simp
theorem wide_take2 (l : List UInt8) (h : 2 ≤ l.length) : wideL (numL (l.take 2)) 2 = l.take 2 := by
  match l, h with
  | a :: b :: r, _ => simpa using wide_two a b
theorem entGo_inv : ∀ (f : Nat) (l : List UInt8) (acc r : List ByteArray), l.length < f → entGo f l acc = some r → ∃ ss, r = acc ++ ss ∧ l = bindL ss ∧ ∀ s ∈ ss, s.size ≤ 4096
  | 0, l, acc, r, h, _ => by omega
  | f + 1, l, acc, r, h, he => by
    by_cases h0 : l = []
    · subst h0
      rw [entGo_nil] at he
      exact ⟨[], by simpa using he.symm, rfl, by simp⟩
    by_cases h1 : l.length < 2 ∨ 4096 < numL (l.take 2) ∨ l.length - 2 < numL (l.take 2)
    · rw [entGo_no _ _ _ h0 h1] at he; cases he
    rw [entGo_more _ _ _ h1] at he
    obtain ⟨ss, e1, e2, e3⟩ := entGo_inv f _ _ r (by simp; omega) he
    obtain ⟨n, hn⟩ : ∃ n, numL (l.take 2) = n := ⟨_, rfl⟩
    rw [hn] at e1 e2 h1
    have hz : (⟨((l.drop 2).take n).toArray⟩ : ByteArray).size = n := by
      show ((l.drop 2).take n).toArray.size = n
      simp; omega
    refine ⟨⟨((l.drop 2).take n).toArray⟩ :: ss, by rw [e1]; simp, ?_, ?_⟩
    · rw [bindL_cons, hz, ← hn, wide_take2 l (by omega), ← e2, hn]
      show l = l.take 2 ++ ((l.drop 2).take n ++ (l.drop 2).drop n)
      rw [List.take_append_drop, List.take_append_drop]
    · intro s hs
      rcases List.mem_cons.1 hs with rfl | hs
      · rw [hz]; omega
      · exact e3 s hs
theorem entL_bind (ss : List ByteArray) (hs : ∀ s ∈ ss, s.size ≤ 4096) : entL (bindL ss) = some ss := by
  have := entGo_bind ss [] [] ((bindL ss).length + 1) hs (by simp)
  rwa [List.append_nil, List.nil_append, entGo_nil] at this
theorem entL_inv {l : List UInt8} {ss : List ByteArray} (h : entL l = some ss) : l = bindL ss ∧ ∀ s ∈ ss, s.size ≤ 4096 := by
  obtain ⟨r, e1, e2, e3⟩ := entGo_inv _ l [] ss (Nat.lt_succ_self _) h
  rw [List.nil_append] at e1
  subst e1
  exact ⟨e2, e3⟩
theorem entL_more {l : List UInt8} {a b : List ByteArray} (h : entL l = some a) (hb : ∀ s ∈ b, s.size ≤ 4096) : entL (l ++ bindL b) = some (a ++ b) := by
  obtain ⟨rfl, ha⟩ := entL_inv h
  rw [← bindL_append]
  exact entL_bind _ fun s hs => (List.mem_append.1 hs).elim (ha s) (hb s)
theorem bindL_least (ss : List ByteArray) : 2 * ss.length ≤ (bindL ss).length := by
  induction ss with
  | nil => simp
  | cons s r ih => rw [bindL_cons_length, List.length_cons]; omega

/-! ### Heads -/
theorem num_wide (n k : Nat) : numL (wideL n k) = n % 256 ^ k := by
  induction k with
  | zero => simp [wideL, numL, Nat.mod_one]
  | succ k ih =>
    rw [wideL_succ, numL_append, ih, wideL_length]
    show n % 256 ^ k + 256 ^ k * ((UInt8.ofNat (n / 256 ^ k % 256)).toNat + 256 * 0) = _
    rw [UInt8.toNat_ofNat_of_lt' (by have := Nat.mod_lt (n / 256 ^ k) (show 0 < 256 by decide); simpa using this), Nat.pow_succ, Nat.mod_mul]
    simp
def headL (g u : Nat) : List UInt8 := [108, 101, 100] ++ (wideL g 6 ++ (wideL u 3 ++ List.replicate 116 0))
theorem headL_length (g u : Nat) : (headL g u).length = 128 := by simp [headL, wideL_length]
theorem headL_gen (g u : Nat) : ((headL g u).drop 3).take 6 = wideL g 6 := by
  rw [headL, List.drop_left' (show ([108, 101, 100] : List UInt8).length = 3 from rfl), List.take_left' (wideL_length _ _)]
theorem headL_used (g u : Nat) : ((headL g u).drop 9).take 3 = wideL u 3 := by
  rw [headL, ← List.append_assoc, List.drop_left' (by simp [wideL_length]), List.take_left' (wideL_length _ _)]
theorem headL_tail (g u : Nat) : (headL g u).drop 64 = List.replicate 64 0 := by
  rw [headL, ← List.append_assoc, ← List.append_assoc, List.drop_append, List.drop_of_length_le (by simp [wideL_length])]
  simp [wideL_length]
/-- What a head's bytes tell, where a room has so many bytes. -/
def toldGo (room : Nat) (s : List UInt8) : Nat × Nat :=
  if 1 ≤ numL ((s.drop 3).take 6) ∧ numL ((s.drop 3).take 6) ≤ 1099511627776 ∧ numL ((s.drop 9).take 3) ≤ room ∧ s = headL (numL ((s.drop 3).take 6)) (numL ((s.drop 9).take 3)) then (numL ((s.drop 3).take 6), numL ((s.drop 9).take 3)) else (0, 0)
theorem toldGo_head (room g u : Nat) (h1 : 1 ≤ g) (h2 : g ≤ 1099511627776) (h3 : u ≤ room) (hr : room < 16777216) : toldGo room (headL g u) = (g, u) := by
  have e1 : numL (((headL g u).drop 3).take 6) = g := by rw [headL_gen, num_wide, Nat.mod_eq_of_lt (by show g < 281474976710656; omega)]
  have e2 : numL (((headL g u).drop 9).take 3) = u := by rw [headL_used, num_wide, Nat.mod_eq_of_lt (by show u < 16777216; omega)]
  unfold toldGo
  rw [e1, e2, if_pos ⟨h1, h2, h3, rfl⟩]
theorem toldGo_pos {room g u : Nat} {s : List UInt8} (h : toldGo room s = (g, u)) (h0 : 1 ≤ g) : s = headL g u ∧ g ≤ 1099511627776 ∧ u ≤ room := by
  unfold toldGo at h
  split at h
  · rename_i k
    obtain ⟨k1, k2, k3, k4⟩ := k
    simp only [Prod.mk.injEq] at h
    rw [h.1, h.2] at k4
    rw [h.1] at k2
    rw [h.2] at k3
    exact ⟨k4, k2, k3⟩
  · simp only [Prod.mk.injEq] at h; omega
theorem toldGo_le (room : Nat) (s : List UInt8) : (toldGo room s).1 ≤ 1099511627776 ∧ (toldGo room s).2 ≤ room := by
  unfold toldGo
  split
  · rename_i k; exact ⟨k.2.1, k.2.2.1⟩
  · exact ⟨Nat.zero_le _, Nat.zero_le _⟩
theorem toldGo_zero {room : Nat} {s : List UInt8} (h : (toldGo room s).1 = 0) : toldGo room s = (0, 0) := by
  unfold toldGo at h ⊢
  split
  · rename_i k; rw [if_pos k] at h; simp only at h; omega
  · rfl
/-- A head that was torn is the new one, or tells nothing. -/
theorem toldGo_torn (room g u : Nat) (s : List UInt8) : (headL g u).take 64 ++ s.drop 64 = headL g u ∨ toldGo room ((headL g u).take 64 ++ s.drop 64) = (0, 0) := by
  by_cases h : s.drop 64 = List.replicate 64 0
  · left; rw [h, ← headL_tail g u, List.take_append_drop]
  · right
    unfold toldGo
    rw [if_neg]
    rintro ⟨-, -, -, k⟩
    apply h
    have e : ((headL g u).take 64 ++ s.drop 64).drop 64 = s.drop 64 := List.drop_left' (by simp [headL_length])
    rw [← e, k, headL_tail]

/-! ### Sectors -/
/-- A sector that begins so. -/
def secL (l : List UInt8) : List UInt8 := l.take 128 ++ List.replicate (128 - l.length) 0
theorem secL_length (l : List UInt8) : (secL l).length = 128 := by simp [secL]; omega
theorem secL_get (l : List UInt8) (j : Nat) (hj : j < l.length) (h : j < 128) : (secL l)[j]? = l[j]? := by
  unfold secL
  rw [List.getElem?_append_left (by simp; omega), List.getElem?_take, if_pos h]
theorem secL_take (l : List UInt8) : secL (l.take 128) = secL l := by
  unfold secL
  rw [List.take_take, Nat.min_self, List.length_take]
  congr 2
  omega
def secB' (l : List UInt8) : ByteArray := ⟨(secL l).toArray⟩
theorem secB'_size (l : List UInt8) : (secB' l).size = 128 := by
  show (secL l).toArray.size = 128
  rw [List.size_toArray, secL_length]
theorem secB'_list (l : List UInt8) : (secB' l).data.toList = secL l := rfl
/-- The places of a room in which fresh bytes come to stand. -/
def fillN (there fresh : List UInt8) : Nat := if fresh = [] then 0 else ((there ++ fresh).length + 127) / 128 - there.length / 128
def fillL (hd : Nat) (there fresh : List UInt8) (k : Nat) : List (Int × ByteArray) := (List.range k).map fun i => (((hd + 1 + (there.length / 128 + i) : Nat) : Int), secB' ((there ++ fresh).drop ((there.length / 128 + i) * 128)))
theorem fillL_length (hd : Nat) (there fresh : List UInt8) (k : Nat) : (fillL hd there fresh k).length = k := by simp [fillL]
theorem fillL_succ (hd : Nat) (there fresh : List UInt8) (k : Nat) : fillL hd there fresh (k + 1) = fillL hd there fresh k ++ [(((hd + 1 + (there.length / 128 + k) : Nat) : Int), secB' ((there ++ fresh).drop ((there.length / 128 + k) * 128)))] := by
  simp [fillL, List.range_succ]
theorem fillL_mem {hd k : Nat} {there fresh : List UInt8} {w : Int × ByteArray} (h : w ∈ fillL hd there fresh k) : ∃ i, there.length / 128 ≤ i ∧ i < there.length / 128 + k ∧ w = (((hd + 1 + i : Nat) : Int), secB' ((there ++ fresh).drop (i * 128))) := by
  simp only [fillL, List.mem_map, List.mem_range] at h
  obtain ⟨i, hi, rfl⟩ := h
  exact ⟨there.length / 128 + i, by omega, by omega, rfl⟩
theorem fillN_lt {there fresh : List UInt8} {i : Nat} (h : i < there.length / 128 + fillN there fresh) (h0 : there.length / 128 ≤ i) : fresh ≠ [] ∧ i * 128 < (there ++ fresh).length := by
  unfold fillN at h
  split at h
  · omega
  · rename_i k; exact ⟨k, by omega⟩
theorem fillN_ge {there fresh : List UInt8} {i : Nat} (h : fresh ≠ []) (h2 : i * 128 < (there ++ fresh).length) : i < there.length / 128 + fillN there fresh := by
  unfold fillN
  rw [if_neg h]
  omega
end Go.Proofs.YtkplpodljmlanaaGreatDoor
/-! Ledgers on disks as plain data: a half's room and head, what a disk has, what calls lay. Conditions: none. -/
namespace Go.Proofs.YtkplpodljmlanaaGreatDoor

/-! ### What a disk has -/
def hOf (d : Dsk) : Nat := d.secs.length / 2
def secAt (d : Dsk) (k : Nat) : List UInt8 := (d.secs.getD k ⟨#[]⟩).data.toList
def roomN (d : Dsk) : Nat := (hOf d - 1) * 128
def roomL (d : Dsk) (n : Nat) : List UInt8 := (List.range (hOf d - 1)).flatMap fun i => secAt d (n * hOf d + 1 + i)
def toldL (d : Dsk) (n : Nat) : Nat × Nat := toldGo (roomN d) (secAt d (n * hOf d))
structure Led where
  disk : Dsk
  half : Int
  gen : Int
  used : Int
  ents : List ByteArray
def nilLed : Led := ⟨emptyD, 0, 0, 0, []⟩
def pickL (d : Dsk) : Nat := if (toldL d 0).1 < (toldL d 1).1 then 1 else 0
def openL (d : Dsk) : Led × Int :=
  if d.right && d.dirty.isEmpty then
    (if (toldL d (pickL d)).1 = 0 then (nilLed, 14)
    else match entL ((roomL d (pickL d)).take (toldL d (pickL d)).2) with
      | none => (nilLed, 14)
      | some es => (⟨d, pickL d, (toldL d (pickL d)).1, (toldL d (pickL d)).2, es⟩, 0))
  else (nilLed, 1)
structure Opens (d : Dsk) (n g u : Nat) (es : List ByteArray) : Prop where
  right : RightIs d
  clean : d.dirty = []
  pick : pickL d = n
  told : toldL d n = (g, u)
  pos : 1 ≤ g
  ents : entL ((roomL d n).take u) = some es
theorem Opens.out {d : Dsk} {n g u : Nat} {es : List ByteArray} (h : Opens d n g u es) : openL d = (⟨d, n, g, u, es⟩, 0) := by
  unfold openL
  rw [(right_iff d).2 h.right, h.clean, h.pick, h.told]
  have := h.pos
  rw [if_pos (show (true && ([] : List (Int × ByteArray)).isEmpty) = true from rfl), if_neg (by show ¬ g = 0; omega), h.ents]
theorem opens_inv {d : Dsk} {l : Led} (h : openL d = (l, 0)) : ∃ n g u es, Opens d n g u es ∧ l = ⟨d, n, g, u, es⟩ := by
  unfold openL at h
  split at h
  · rename_i hr
    rw [Bool.and_eq_true, List.isEmpty_iff] at hr
    split at h
    · simp at h
    · rename_i hg
      split at h
      · simp at h
      · rename_i es he
        simp only [Prod.mk.injEq, and_true] at h
        exact ⟨pickL d, (toldL d (pickL d)).1, (toldL d (pickL d)).2, es, ⟨(right_iff d).1 hr.1, hr.2, rfl, rfl, Nat.pos_of_ne_zero hg, he⟩, h.symm⟩
  · simp at h
theorem openL_cases (d : Dsk) : (∃ n g u es, Opens d n g u es) ∨ openL d = (nilLed, 1) ∨ openL d = (nilLed, 14) := by
  by_cases h : (openL d).2 = 0
  · obtain ⟨n, g, u, es, ho, -⟩ := opens_inv (d := d) (l := (openL d).1) (by rw [← h])
    exact Or.inl ⟨n, g, u, es, ho⟩
  · right
    unfold openL at h ⊢
    split
    · rename_i hr
      rw [if_pos hr] at h
      split
      · exact Or.inr rfl
      · rename_i hg
        rw [if_neg hg] at h
        split
        · exact Or.inr rfl
        · rename_i es he
          rw [he] at h
          exact absurd rfl h
    · exact Or.inl rfl

/-! ### Rooms, byte by byte -/
theorem flat_length (f : Nat → List UInt8) (m : Nat) : ∀ k, (∀ i, i < k → (f i).length = m) → ((List.range k).flatMap f).length = k * m
  | 0, _ => by simp
  | k + 1, hf => by
    rw [List.range_succ, List.flatMap_append, List.length_append, flat_length f m k fun i hi => hf i (by omega)]
    simp [hf k (by omega), Nat.succ_mul]
theorem flat_get (f : Nat → List UInt8) (m : Nat) (hm : 0 < m) : ∀ k, (∀ i, i < k → (f i).length = m) → ∀ j, j < k * m → ((List.range k).flatMap f)[j]? = (f (j / m))[j % m]?
  | 0, _, j, h => by omega
  | k + 1, hf, j, h => by
    have hl := flat_length f m k fun i hi => hf i (by omega)
    rw [List.range_succ, List.flatMap_append]
    by_cases e : j < k * m
    · rw [List.getElem?_append_left (by omega)]
      exact flat_get f m hm k (fun i hi => hf i (by omega)) j e
    · rw [List.getElem?_append_right (by omega), hl]
      rw [Nat.succ_mul] at h
      have e1 : j / m = k := Nat.div_eq_of_lt_le (by omega) (by rw [Nat.succ_mul]; omega)
      have e2 : j % m = j - k * m := by have := Nat.div_add_mod j m; rw [e1, Nat.mul_comm] at this; omega
      rw [e1, e2]
      simp
theorem sec_length {d : Dsk} (h : RightIs d) {k : Nat} (hk : k < d.secs.length) : (secAt d k).length = 128 := by
  have := sec_size h hk
  unfold secAt
  simpa using this
theorem half_lt {d : Dsk} {n i : Nat} (hn : n ≤ 1) (hi : i < hOf d - 1) : n * hOf d + 1 + i < d.secs.length := by
  unfold hOf at *
  rcases (show n = 0 ∨ n = 1 by omega) with rfl | rfl <;> omega
theorem head_lt {d : Dsk} (h : RightIs d) {n : Nat} (hn : n ≤ 1) : n * hOf d < d.secs.length := by
  have := h.least
  unfold hOf
  rcases (show n = 0 ∨ n = 1 by omega) with rfl | rfl <;> omega
theorem hOf_two {d : Dsk} (h : RightIs d) : 2 ≤ hOf d ∧ hOf d ≤ 32 := by
  have := h.least
  have := h.most
  unfold hOf
  omega
theorem room_length {d : Dsk} (h : RightIs d) {n : Nat} (hn : n ≤ 1) : (roomL d n).length = roomN d := flat_length _ _ _ fun _ hi => sec_length h (half_lt hn hi)
theorem room_get {d : Dsk} (h : RightIs d) {n : Nat} (hn : n ≤ 1) {j : Nat} (hj : j < roomN d) : (roomL d n)[j]? = (secAt d (n * hOf d + 1 + j / 128))[j % 128]? :=
  flat_get _ 128 (by decide) _ (fun _ hi => sec_length h (half_lt hn hi)) j hj
theorem roomN_le {d : Dsk} (h : RightIs d) : roomN d ≤ 3968 := by
  have := hOf_two h
  unfold roomN
  omega
theorem Opens.used {d : Dsk} {n g u : Nat} {es : List ByteArray} (h : Opens d n g u es) : u ≤ roomN d := by
  have := (toldGo_le (roomN d) (secAt d (n * hOf d))).2
  rw [show toldGo (roomN d) (secAt d (n * hOf d)) = (g, u) from h.told] at this
  exact this
theorem Opens.most {d : Dsk} {n g u : Nat} {es : List ByteArray} (h : Opens d n g u es) : g ≤ 1099511627776 := by
  have := (toldGo_le (roomN d) (secAt d (n * hOf d))).1
  rw [show toldGo (roomN d) (secAt d (n * hOf d)) = (g, u) from h.told] at this
  exact this
theorem Opens.half {d : Dsk} {n g u : Nat} {es : List ByteArray} (h : Opens d n g u es) : n ≤ 1 := by
  rw [← h.pick]; unfold pickL; split <;> omega
theorem Opens.len {d : Dsk} {n g u : Nat} {es : List ByteArray} (h : Opens d n g u es) : ((roomL d n).take u).length = u := by
  rw [List.length_take, room_length h.right h.half]; exact Nat.min_eq_left h.used
theorem Opens.few {d : Dsk} {n g u : Nat} {es : List ByteArray} (h : Opens d n g u es) : es.length ≤ 1984 ∧ (∀ s ∈ es, s.size ≤ 4096) ∧ (bindL es).length = u := by
  obtain ⟨e, hs⟩ := entL_inv h.ents
  have h1 := bindL_least es
  have h2 := h.len
  have h3 := roomN_le h.right
  have h4 := h.used
  rw [e] at h2
  exact ⟨by omega, hs, h2⟩

/-! ### What changes nothing, and what changes all -/
/-- All but the room of half m behind so many bytes is as it was. -/
structure Kept (d d' : Dsk) (m used : Nat) : Prop where
  right : RightIs d'
  clean : d'.dirty = []
  len : d'.secs.length = d.secs.length
  out : ∀ k, k < d.secs.length → ¬ (m * hOf d < k ∧ k < m * hOf d + hOf d) → secAt d' k = secAt d k
  bytes : ∀ i, i < hOf d - 1 → ∀ j, j < 128 → i * 128 + j < used → (secAt d' (m * hOf d + 1 + i))[j]? = (secAt d (m * hOf d + 1 + i))[j]?
theorem Kept.half {d d' : Dsk} {m used : Nat} (k : Kept d d' m used) : hOf d' = hOf d := by unfold hOf; rw [k.len]
theorem Kept.told {d d' : Dsk} {m used : Nat} (k : Kept d d' m used) (hm : m ≤ 1) {n : Nat} (hn : n ≤ 1) : toldL d' n = toldL d n := by
  have h1 : n * hOf d < d.secs.length := by
    have := head_lt k.right hn
    rwa [k.half, k.len] at this
  have := hOf_two k.right
  rw [k.half] at this
  unfold toldL roomN
  rw [k.half, k.out _ h1 (by rcases (show n = 0 ∨ n = 1 by omega) with rfl | rfl <;> rcases (show m = 0 ∨ m = 1 by omega) with rfl | rfl <;> omega)]
theorem take_congr {d d' : Dsk} {n u : Nat} (hr : RightIs d) (hr' : RightIs d') (hl : d'.secs.length = d.secs.length) (hn : n ≤ 1) (hu : u ≤ roomN d)
    (h : ∀ i, i < hOf d - 1 → ∀ j, j < 128 → i * 128 + j < u → (secAt d' (n * hOf d + 1 + i))[j]? = (secAt d (n * hOf d + 1 + i))[j]?) : (roomL d' n).take u = (roomL d n).take u := by
  have e : hOf d' = hOf d := by unfold hOf; rw [hl]
  apply List.ext_getElem?
  intro j
  rw [List.getElem?_take, List.getElem?_take]
  by_cases hj : j < u
  · rw [if_pos hj, if_pos hj, room_get hr hn (by omega), room_get hr' hn (by unfold roomN; rw [e]; unfold roomN at hu; omega), e]
    exact h (j / 128) (by unfold roomN at hu; omega) (j % 128) (Nat.mod_lt _ (by decide)) (by omega)
  · rw [if_neg hj, if_neg hj]
theorem Kept.opens {d d' : Dsk} {n g u m used : Nat} {es : List ByteArray} (h : Opens d n g u es) (k : Kept d d' m used) (hm : m ≤ 1) (hu : m = n → u ≤ used) : Opens d' n g u es := by
  have h1 := h.half
  refine ⟨k.right, k.clean, ?_, (k.told hm h1).trans h.told, h.pos, ?_⟩
  · rw [← h.pick]; unfold pickL; rw [k.told hm (by omega), k.told hm (by omega)]
  · rw [take_congr h.right k.right k.len h1 h.used fun i hi j hj hlt => ?_, h.ents]
    by_cases e : m = n
    · subst e; exact k.bytes i hi j hj (by have := hu rfl; omega)
    · rw [k.out _ (half_lt h1 hi) (by rcases (show n = 0 ∨ n = 1 by omega) with rfl | rfl <;> rcases (show m = 0 ∨ m = 1 by omega) with rfl | rfl <;> omega)]

/-- The head of half m is x; all else is as it was. -/
structure Headed (d d' : Dsk) (m : Nat) (x : List UInt8) : Prop where
  right : RightIs d'
  clean : d'.dirty = []
  len : d'.secs.length = d.secs.length
  head : secAt d' (m * hOf d) = x
  rest : ∀ k, k < d.secs.length → k ≠ m * hOf d → secAt d' k = secAt d k
theorem Headed.half {d d' : Dsk} {m : Nat} {x : List UInt8} (k : Headed d d' m x) : hOf d' = hOf d := by unfold hOf; rw [k.len]
theorem Headed.told {d d' : Dsk} {m : Nat} {x : List UInt8} (k : Headed d d' m x) : toldL d' m = toldGo (roomN d) x := by
  unfold toldL roomN; rw [k.half, k.head]
theorem Headed.other {d d' : Dsk} {m n : Nat} {x : List UInt8} (k : Headed d d' m x) (hm : m ≤ 1) (hn : n ≤ 1) (hne : n ≠ m) : toldL d' n = toldL d n := by
  have h1 : n * hOf d < d.secs.length := by
    have := head_lt k.right hn
    rwa [k.half, k.len] at this
  have := hOf_two k.right
  rw [k.half] at this
  unfold toldL roomN
  rw [k.half, k.rest _ h1 (by rcases (show n = 0 ∨ n = 1 by omega) with rfl | rfl <;> rcases (show m = 0 ∨ m = 1 by omega) with rfl | rfl <;> omega)]
theorem Headed.room {d d' : Dsk} {m n : Nat} {x : List UInt8} (k : Headed d d' m x) (hm : m ≤ 1) (hn : n ≤ 1) : roomL d' n = roomL d n := by
  have h2 := hOf_two k.right
  rw [k.half] at h2
  unfold roomL
  rw [k.half]
  rw [List.flatMap_def, List.flatMap_def]
  congr 1
  apply List.map_congr_left
  intro i hi
  rw [List.mem_range] at hi
  exact k.rest _ (half_lt hn hi) (by rcases (show n = 0 ∨ n = 1 by omega) with rfl | rfl <;> rcases (show m = 0 ∨ m = 1 by omega) with rfl | rfl <;> omega)
theorem Headed.same {d d' : Dsk} {m : Nat} (k : Headed d d' m (secAt d (m * hOf d))) : Kept d d' m 3968 :=
  ⟨k.right, k.clean, k.len, fun i hi _ => by
    by_cases e : i = m * hOf d
    · rw [e]; exact k.head
    · exact k.rest i hi e, fun i _ j _ _ => by
    by_cases e : m * hOf d + 1 + i < d.secs.length
    · rw [k.rest _ e (by omega)]
    · unfold secAt
      have hl := k.len
      have q : ∀ (l : List ByteArray) (p : Nat), l.length ≤ p → l.getD p ⟨#[]⟩ = ⟨#[]⟩ := fun l p h => by rw [List.getD_eq_getElem?_getD, List.getElem?_eq_none h]; rfl
      rw [q d'.secs _ (by omega), q d.secs _ (by omega)]⟩
/-- The new head tells. -/
theorem Headed.news {d d' : Dsk} {m g u : Nat} {es : List ByteArray} (hr : RightIs d) (k : Headed d d' m (headL g u)) (hm : m ≤ 1) (h1 : 1 ≤ g) (h2 : g ≤ 1099511627776) (h3 : u ≤ roomN d)
    (ho : m = 0 ∧ (toldL d 1).1 ≤ g ∨ m = 1 ∧ (toldL d 0).1 < g) (he : entL ((roomL d m).take u) = some es) : Opens d' m g u es := by
  have ht : toldL d' m = (g, u) := by rw [k.told, toldGo_head _ _ _ h1 h2 h3 (by have := roomN_le hr; omega)]
  refine ⟨k.right, k.clean, ?_, ht, h1, by rw [k.room hm hm]; exact he⟩
  unfold pickL
  rcases ho with ⟨rfl, ho⟩ | ⟨rfl, ho⟩
  · rw [ht, k.other hm (by omega) (by omega), if_neg (by omega)]
  · rw [ht, k.other hm (by omega) (by omega), if_pos (by omega)]
/-- A head that tells nothing, at the other side. -/
theorem Headed.none {d d' : Dsk} {m n g u : Nat} {x : List UInt8} {es : List ByteArray} (h : Opens d n g u es) (k : Headed d d' m x) (hm : m ≤ 1) (hne : n ≠ m) (h0 : toldGo (roomN d) x = (0, 0)) : Opens d' n g u es := by
  have hn := h.half
  have ht : toldL d' n = (g, u) := (k.other hm hn hne).trans h.told
  have ht2 : toldL d' m = (0, 0) := k.told.trans h0
  have hg := h.pos
  refine ⟨k.right, k.clean, ?_, ht, hg, by rw [k.room hm hn]; exact h.ents⟩
  unfold pickL
  rcases (show n = 0 ∨ n = 1 by omega) with rfl | rfl
  · obtain rfl : m = 1 := by omega
    rw [ht, ht2, if_neg (by omega)]
  · obtain rfl : m = 0 := by omega
    rw [ht, ht2, if_pos (by omega)]
end Go.Proofs.YtkplpodljmlanaaGreatDoor
/-! What calls lay on a disk as plain data: steps, what becomes of them when they are saved and flushed, and when a crash comes. Conditions: none. -/
namespace Go.Proofs.YtkplpodljmlanaaGreatDoor

def headB (g u : Nat) : ByteArray := ⟨(headL g u).toArray⟩
theorem headB_size (g u : Nat) : (headB g u).size = 128 := by
  show (headL g u).toArray.size = 128
  rw [List.size_toArray, headL_length]
theorem headB_list (g u : Nat) : (headB g u).data.toList = headL g u := rfl
def headW (d : Dsk) (m g u : Nat) : Int × ByteArray := (((m * hOf d : Nat) : Int), headB g u)
def fillW (d : Dsk) (m : Nat) (there s : List UInt8) : List (Int × ByteArray) := fillL (m * hOf d) there s (fillN there s)
def layL (d : Dsk) (m g : Nat) (there s : List UInt8) : List (List (Int × ByteArray)) × Int :=
  if roomN d < there.length + s.length ∨ 1099511627776 < g then ([], 13) else ([fillW d m there s, [headW d m g (there.length + s.length)]], 0)
def rightLed (l : Led) : Bool := (openL l.disk).2 == 0 && (openL l.disk).1.half == l.half && (openL l.disk).1.gen == l.gen && (openL l.disk).1.used == l.used && decide ((openL l.disk).1.ents = l.ents)
def stepsL (l : Led) (renew : Bool) (ss : List ByteArray) : List (List (Int × ByteArray)) × Int :=
  if rightLed l then
    (if mayB ss then
      (if renew then layL l.disk (1 - l.half).toNat (l.gen + 1).toNat [] (bindL ss) else layL l.disk l.half.toNat l.gen.toNat ((roomL l.disk l.half.toNat).take l.used.toNat) (bindL ss))
    else ([], 2))
  else ([], 1)
def writtenL : Dsk → List (List (Int × ByteArray)) → Led × Int
  | d, [] => openL d
  | d, s :: r => if (saveD d s).2 = 0 then (if (flushD (saveD d s).1).2 = 0 then writtenL (flushD (saveD d s).1).1 r else (nilLed, (flushD (saveD d s).1).2)) else (nilLed, (saveD d s).2)
def addL (l : Led) (renew : Bool) (ss : List ByteArray) : Led × Int := if (stepsL l renew ss).2 = 0 then writtenL l.disk (stepsL l renew ss).1 else (nilLed, (stepsL l renew ss).2)

theorem rightLed_of {d : Dsk} {n g u : Nat} {es : List ByteArray} (h : Opens d n g u es) : rightLed ⟨d, n, g, u, es⟩ = true := by
  unfold rightLed
  rw [h.out]
  simp
theorem rightLed_inv {l : Led} (h : rightLed l = true) : ∃ n g u es, Opens l.disk n g u es ∧ l = ⟨l.disk, n, g, u, es⟩ := by
  unfold rightLed at h
  simp only [Bool.and_eq_true, beq_iff_eq, decide_eq_true_eq] at h
  obtain ⟨⟨⟨⟨h0, h1⟩, h2⟩, h3⟩, h4⟩ := h
  obtain ⟨n, g, u, es, ho, e⟩ := opens_inv (d := l.disk) (l := (openL l.disk).1) (by rw [← h0])
  rw [e] at h1 h2 h3 h4
  refine ⟨n, g, u, es, ho, ?_⟩
  obtain ⟨d, a, b, c, f⟩ := l
  simp only at h1 h2 h3 h4
  rw [h1, h2, h3, h4]

/-! ### Where a call writes -/
/-- The half, the generation, and the bytes that stay. -/
def mOf (renew : Bool) (n : Nat) : Nat := if renew then 1 - n else n
def gOf (renew : Bool) (g : Nat) : Nat := if renew then g + 1 else g
def thereOf (renew : Bool) (d : Dsk) (n u : Nat) : List UInt8 := if renew then [] else (roomL d n).take u
def esOf (renew : Bool) (es ss : List ByteArray) : List ByteArray := if renew then ss else es ++ ss
theorem stepsL_of {d : Dsk} {n g u : Nat} {es : List ByteArray} (h : Opens d n g u es) (renew : Bool) (ss : List ByteArray) :
    stepsL ⟨d, n, g, u, es⟩ renew ss = if mayB ss then layL d (mOf renew n) (gOf renew g) (thereOf renew d n u) (bindL ss) else ([], 2) := by
  unfold stepsL
  rw [rightLed_of h, if_pos rfl]
  have hn := h.half
  cases renew
  · rfl
  · show (if mayB ss = true then (if true = true then layL d (1 - (n : Int)).toNat ((g : Int) + 1).toNat [] (bindL ss) else _) else _) = _
    rw [show (1 - (n : Int)).toNat = 1 - n by omega, show ((g : Int) + 1).toNat = g + 1 by omega]
    rfl
theorem mOf_le {d : Dsk} {n g u : Nat} {es : List ByteArray} (h : Opens d n g u es) (renew : Bool) : mOf renew n ≤ 1 := by
  have := h.half
  unfold mOf; split <;> omega
theorem thereOf_len {d : Dsk} {n g u : Nat} {es : List ByteArray} (h : Opens d n g u es) (renew : Bool) : (thereOf renew d n u).length = if renew then 0 else u := by
  unfold thereOf
  split
  · rfl
  · exact h.len

/-! ### Sectors behind a flush -/
def fillAt (hd : Nat) (there s : List UInt8) (N k : Nat) (x : ByteArray) : ByteArray := if hd + 1 + there.length / 128 ≤ k ∧ k < hd + 1 + there.length / 128 + N then secB' ((there ++ s).drop ((k - (hd + 1)) * 128)) else x
theorem stands_fill (hd : Nat) (there s : List UInt8) (k : Nat) (x : ByteArray) : ∀ N, standsL k x (fillL hd there s N) = fillAt hd there s N k x
  | 0 => by
    unfold fillAt
    rw [if_neg (by omega)]; rfl
  | N + 1 => by
    rw [fillL_succ, standsL_snoc, stands_fill hd there s k x N]
    unfold fillAt
    simp only
    by_cases e : hd + 1 + (there.length / 128 + N) = k
    · rw [if_pos (by omega), if_pos (by omega), show there.length / 128 + N = k - (hd + 1) by omega]
    · rw [if_neg (by omega)]
      by_cases e2 : hd + 1 + there.length / 128 ≤ k ∧ k < hd + 1 + there.length / 128 + N
      · rw [if_pos e2, if_pos (by omega)]
      · rw [if_neg e2, if_neg (by omega)]
theorem fillAt_size (hd : Nat) (there s : List UInt8) (N k : Nat) (x : ByteArray) (h : x.size = 128) : (fillAt hd there s N k x).size = 128 := by
  unfold fillAt
  split
  · exact secB'_size _
  · exact h
theorem fillW_right {d : Dsk} (h : RightIs d) {m : Nat} (hm : m ≤ 1) {there s : List UInt8} (hfit : there.length + s.length ≤ roomN d) : wellB d.secs.length (fillW d m there s) = true ∧ (fillW d m there s).length ≤ 32 := by
  have h1 := hOf_two h
  refine ⟨(well_iff _ _).2 fun w hw => ?_, ?_⟩
  · obtain ⟨i, hi0, hi, rfl⟩ := fillL_mem hw
    have h2 := fillN_lt hi hi0
    rw [List.length_append] at h2
    have h3 := half_lt (d := d) hm (i := i) (by unfold roomN at hfit; omega)
    exact ⟨by simp only; omega, by simp only; omega, secB'_size _⟩
  · unfold fillW
    rw [fillL_length]
    unfold fillN
    split
    · omega
    · rw [List.length_append]; unfold roomN at hfit; omega
def fillD (d : Dsk) (m : Nat) (there s : List UInt8) : Dsk := clean d.secs.length fun k => fillAt (m * hOf d) there s (fillN there s) k (d.secs.getD k ⟨#[]⟩)
theorem saveD_of {d : Dsk} (h : RightIs d) (hd : d.dirty = []) {l : List (Int × ByteArray)} (hw : wellB d.secs.length l = true) (hl : l.length ≤ 200) : saveD d l = (⟨d.secs, l⟩, 0) := by
  unfold saveD
  rw [(right_iff d).2 h, hw, hd, Bool.and_self, if_pos rfl, if_pos (by simpa using hl), List.nil_append]
theorem saved_right {d : Dsk} (h : RightIs d) {l : List (Int × ByteArray)} (hw : wellB d.secs.length l = true) (hl : l.length ≤ 200) : RightIs ⟨d.secs, l⟩ :=
  ⟨h.secs, h.least, h.most, hl, (well_iff _ _).1 hw⟩
theorem fill_flush {d : Dsk} (h : RightIs d) (hd : d.dirty = []) {m : Nat} (hm : m ≤ 1) {there s : List UInt8} (hfit : there.length + s.length ≤ roomN d) :
    saveD d (fillW d m there s) = (⟨d.secs, fillW d m there s⟩, 0) ∧ flushD ⟨d.secs, fillW d m there s⟩ = (fillD d m there s, 0) := by
  obtain ⟨h1, h2⟩ := fillW_right h hm hfit
  refine ⟨saveD_of h hd h1 (by omega), ?_⟩
  rw [flushD_ok (saved_right h h1 (by omega))]
  unfold fillD
  congr 1
  apply clean_congr
  intro k _
  exact stands_fill _ _ _ _ _ _
theorem sec_clean {n : Nat} {f : Nat → ByteArray} {k : Nat} (hk : k < n) : secAt (clean n f) k = (f k).data.toList := by unfold secAt; rw [clean_sec hk]
theorem fillD_right {d : Dsk} (h : RightIs d) (m : Nat) (there s : List UInt8) : RightIs (fillD d m there s) :=
  clean_right h.least h.most fun _ hi => fillAt_size _ _ _ _ _ _ (sec_size h hi)
theorem fillD_len (d : Dsk) (m : Nat) (there s : List UInt8) : (fillD d m there s).secs.length = d.secs.length := clean_length _ _

/-- What stays of half m's room behind a write of any of these. -/
theorem fill_bytes {d : Dsk} {m i j : Nat} {there s : List UInt8} (hth : ∀ p, p < there.length → (roomL d m)[p]? = there[p]?) (hr : RightIs d) (hm : m ≤ 1) (hth2 : there.length ≤ roomN d) (hj : j < 128) (hlt : i * 128 + j < there.length) :
    (secL ((there ++ s).drop (i * 128)))[j]? = (secAt d (m * hOf d + 1 + i))[j]? := by
  have e := hth (i * 128 + j) hlt
  rw [room_get hr hm (by omega), show (i * 128 + j) / 128 = i by omega, show (i * 128 + j) % 128 = j by omega] at e
  rw [e, secL_get _ _ (by rw [List.length_drop, List.length_append]; omega) hj, List.getElem?_drop, List.getElem?_append_left hlt]
theorem fillD_kept {d : Dsk} (h : RightIs d) {m : Nat} (hm : m ≤ 1) {there s : List UInt8} (hth : ∀ p, p < there.length → (roomL d m)[p]? = there[p]?) (hfit : there.length + s.length ≤ roomN d) : Kept d (fillD d m there s) m there.length := by
  have h2 := hOf_two h
  refine ⟨fillD_right h m there s, rfl, fillD_len .., fun k hk ho => ?_, fun i hi j hj hlt => ?_⟩
  · rw [fillD, sec_clean hk]
    unfold fillAt
    rw [if_neg]
    · rfl
    · rintro ⟨c1, c2⟩
      apply ho
      have c3 := fillN_lt (there := there) (fresh := s) (i := k - (m * hOf d + 1)) (by omega) (by omega)
      rw [List.length_append] at c3
      unfold roomN at hfit
      omega
  · have hk := half_lt (d := d) hm hi
    rw [fillD, sec_clean hk]
    unfold fillAt
    split
    · rw [secB'_list, show m * hOf d + 1 + i - (m * hOf d + 1) = i by omega]
      exact fill_bytes hth h hm (by omega) hj hlt
    · rfl
/-- What a room holds then. -/
theorem fillD_room {d : Dsk} (h : RightIs d) {m : Nat} (hm : m ≤ 1) {there s : List UInt8} (hth : ∀ p, p < there.length → (roomL d m)[p]? = there[p]?) (hfit : there.length + s.length ≤ roomN d) : (roomL (fillD d m there s) m).take (there.length + s.length) = there ++ s := by
  have e : hOf (fillD d m there s) = hOf d := by unfold hOf; rw [fillD_len]
  have eR : roomN (fillD d m there s) = roomN d := by unfold roomN; rw [e]
  apply List.ext_getElem?
  intro p
  rw [List.getElem?_take]
  by_cases hp : p < there.length + s.length
  · rw [if_pos hp, room_get (fillD_right h m there s) hm (by rw [eR]; omega), e]
    have hi : p / 128 < hOf d - 1 := by unfold roomN at hfit; omega
    rw [fillD, sec_clean (half_lt hm hi)]
    unfold fillAt
    split
    · rw [secB'_list, show m * hOf d + 1 + p / 128 - (m * hOf d + 1) = p / 128 by omega, secL_get _ _ (by rw [List.length_drop, List.length_append]; omega) (Nat.mod_lt _ (by decide)), List.getElem?_drop, show p / 128 * 128 + p % 128 = p by omega]
    · rename_i hno
      have hpt : p < there.length := by
        rcases Nat.lt_or_ge p there.length with hc | hc
        · exact hc
        exfalso
        apply hno
        have hs : s ≠ [] := by rintro rfl; simp at hp; omega
        have := fillN_ge (there := there) (fresh := s) (i := p / 128) hs (by rw [List.length_append]; omega)
        omega
      rw [List.getElem?_append_left hpt, ← hth p hpt, room_get h hm (by omega)]
      rfl
  · rw [if_neg hp, List.getElem?_eq_none (by rw [List.length_append]; omega)]

/-! ### Heads behind a flush -/
def headD (d : Dsk) (m g u : Nat) : Dsk := clean d.secs.length fun k => if ((m * hOf d : Nat) : Int) = (k : Int) then headB g u else d.secs.getD k ⟨#[]⟩
theorem headW_right {d : Dsk} (h : RightIs d) {m : Nat} (hm : m ≤ 1) (g u : Nat) : wellB d.secs.length [headW d m g u] = true := (well_iff _ _).2 fun w hw => by
  rw [List.mem_singleton.1 hw]
  have := head_lt h hm
  exact ⟨by simp only [headW]; omega, by simp only [headW]; omega, headB_size _ _⟩
theorem head_flush {d : Dsk} (h : RightIs d) (hd : d.dirty = []) {m : Nat} (hm : m ≤ 1) (g u : Nat) :
    saveD d [headW d m g u] = (⟨d.secs, [headW d m g u]⟩, 0) ∧ flushD ⟨d.secs, [headW d m g u]⟩ = (headD d m g u, 0) := by
  have h1 := headW_right h hm g u
  refine ⟨saveD_of h hd h1 (by simp), ?_⟩
  rw [flushD_ok (saved_right h h1 (by simp))]
  rfl
/-- A disk on which the head's sector is x. -/
theorem headed_of {d : Dsk} (h : RightIs d) {m : Nat} (hm : m ≤ 1) (f : Nat → ByteArray) (x : ByteArray) (hx : x.size = 128) (h0 : f (m * hOf d) = x) (h1 : ∀ k, k < d.secs.length → k ≠ m * hOf d → f k = d.secs.getD k ⟨#[]⟩) : Headed d (clean d.secs.length f) m x.data.toList := by
  have hl := head_lt h hm
  refine ⟨clean_right h.least h.most fun i hi => ?_, rfl, clean_length _ _, ?_, fun k hk hne => ?_⟩
  · by_cases e : i = m * hOf d
    · rw [e, h0, hx]
    · rw [h1 i hi e]; exact sec_size h hi
  · rw [sec_clean hl, h0]
  · rw [sec_clean hk, h1 k hk hne]; rfl
theorem headD_headed {d : Dsk} (h : RightIs d) {m : Nat} (hm : m ≤ 1) (g u : Nat) : Headed d (headD d m g u) m (headL g u) := by
  have := headed_of h hm (fun k => if ((m * hOf d : Nat) : Int) = (k : Int) then headB g u else d.secs.getD k ⟨#[]⟩) (headB g u) (headB_size _ _) (if_pos rfl) (fun k _ hne => if_neg (by omega))
  exact this

/-! ### Both steps -/
/-- What is needed of a call that has room. -/
structure Goes (d : Dsk) (n g u : Nat) (es : List ByteArray) (renew : Bool) (ss : List ByteArray) : Prop where
  opens : Opens d n g u es
  may : mayB ss = true
  fits : (thereOf renew d n u).length + (bindL ss).length ≤ roomN d
  most : gOf renew g ≤ 1099511627776
theorem goes_of {d : Dsk} {n g u : Nat} {es : List ByteArray} (h : Opens d n g u es) {renew : Bool} {ss : List ByteArray} (h0 : (stepsL ⟨d, n, g, u, es⟩ renew ss).2 = 0) :
    Goes d n g u es renew ss ∧ stepsL ⟨d, n, g, u, es⟩ renew ss = ([fillW d (mOf renew n) (thereOf renew d n u) (bindL ss), [headW d (mOf renew n) (gOf renew g) ((thereOf renew d n u).length + (bindL ss).length)]], 0) := by
  rw [stepsL_of h] at h0 ⊢
  split at h0
  · rename_i hm
    rw [if_pos hm]
    unfold layL at h0 ⊢
    split at h0
    · cases h0
    · rename_i hf
      rw [if_neg hf]
      exact ⟨⟨h, hm, by omega, by omega⟩, rfl⟩
  · cases h0
theorem steps_no {d : Dsk} {n g u : Nat} {es : List ByteArray} (h : Opens d n g u es) {renew : Bool} {ss : List ByteArray} (h0 : (stepsL ⟨d, n, g, u, es⟩ renew ss).2 ≠ 0) :
    stepsL ⟨d, n, g, u, es⟩ renew ss = ([], 2) ∧ mayB ss = false ∨ stepsL ⟨d, n, g, u, es⟩ renew ss = ([], 13) ∧ mayB ss = true ∧ (roomN d < (thereOf renew d n u).length + (bindL ss).length ∨ 1099511627776 < gOf renew g) := by
  rw [stepsL_of h] at h0 ⊢
  by_cases hm : mayB ss = true
  · rw [if_pos hm] at h0 ⊢
    right
    unfold layL at h0 ⊢
    split
    · rename_i hf; exact ⟨rfl, hm, hf⟩
    · rename_i hf; rw [if_neg hf] at h0; exact absurd rfl h0
  · rw [if_neg hm]; exact Or.inl ⟨rfl, by simpa using hm⟩
section
variable {d : Dsk} {n g u : Nat} {es : List ByteArray} {renew : Bool} {ss : List ByteArray}
theorem Goes.there (h : Goes d n g u es renew ss) : ∀ p, p < (thereOf renew d n u).length → (roomL d (mOf renew n))[p]? = (thereOf renew d n u)[p]? := by
  intro p hp
  unfold thereOf mOf at *
  cases renew
  · simp only [Bool.false_eq_true, if_false] at hp ⊢
    rw [h.opens.len] at hp
    rw [List.getElem?_take, if_pos hp]
  · simp at hp
theorem Goes.le (h : Goes d n g u es renew ss) : mOf renew n ≤ 1 := mOf_le h.opens renew
def fillOf (d : Dsk) (n u : Nat) (renew : Bool) (ss : List ByteArray) : Dsk := fillD d (mOf renew n) (thereOf renew d n u) (bindL ss)
theorem Goes.kept (h : Goes d n g u es renew ss) : Kept d (fillOf d n u renew ss) (mOf renew n) (thereOf renew d n u).length := fillD_kept h.opens.right h.le h.there h.fits
theorem keptUsed (h : Opens d n g u es) (renew : Bool) : mOf renew n = n → u ≤ (thereOf renew d n u).length := by
  intro e
  have := h.half
  rw [thereOf_len h]
  unfold mOf at e
  cases renew
  · simp
  · simp at e; omega
theorem Goes.mid (h : Goes d n g u es renew ss) : Opens (fillOf d n u renew ss) n g u es := h.kept.opens h.opens h.le (keptUsed h.opens renew)
theorem fillOf_half (d : Dsk) (n u : Nat) (renew : Bool) (ss : List ByteArray) : hOf (fillOf d n u renew ss) = hOf d := by unfold hOf fillOf; rw [fillD_len]
theorem fillOf_roomN (d : Dsk) (n u : Nat) (renew : Bool) (ss : List ByteArray) : roomN (fillOf d n u renew ss) = roomN d := by unfold roomN; rw [fillOf_half]
def usedOf (d : Dsk) (n u : Nat) (renew : Bool) (ss : List ByteArray) : Nat := (thereOf renew d n u).length + (bindL ss).length
/-- With the new head all is there. -/
theorem Goes.news (h : Goes d n g u es renew ss) {d' : Dsk} (k : Headed (fillOf d n u renew ss) d' (mOf renew n) (headL (gOf renew g) (usedOf d n u renew ss))) : Opens d' (mOf renew n) (gOf renew g) (usedOf d n u renew ss) (esOf renew es ss) := by
  have hmid := h.mid
  refine k.news hmid.right h.le ?_ h.most (by rw [fillOf_roomN]; exact h.fits) ?_ ?_
  · have := h.opens.pos
    unfold gOf; split <;> omega
  · have hp := hmid.pick
    have ht := hmid.told
    have hn := h.opens.half
    unfold mOf gOf
    unfold pickL at hp
    rcases (show n = 0 ∨ n = 1 by omega) with rfl | rfl
    · rw [ht] at hp
      cases renew
      · left; refine ⟨rfl, ?_⟩
        simp only at hp ⊢
        split at hp
        · omega
        · simp; omega
      · right; refine ⟨rfl, ?_⟩
        rw [ht]; simp
    · rw [ht] at hp
      cases renew
      · right; refine ⟨rfl, ?_⟩
        simp only at hp ⊢
        split at hp
        · simp; omega
        · omega
      · left; refine ⟨rfl, ?_⟩
        rw [ht]; simp
  · unfold usedOf fillOf
    rw [fillD_room h.opens.right h.le h.there h.fits]
    have hs := (mayB_iff h.may).1
    unfold esOf thereOf
    cases renew
    · exact entL_more h.opens.ents hs
    · simpa using entL_bind ss hs
end
end Go.Proofs.YtkplpodljmlanaaGreatDoor
/-! Ledgers in memory; blocks of six cells; what stays when such a block is written anew; a ledger as a result. Conditions: none. -/
namespace Go.Proofs.YtkplpodljmlanaaGreatDoor
open Go.RowKit Go.WideShapes

theorem StrRow.at {w : World} {v : Value} {ss : List ByteArray} (h : StrRow w v ss) : StrsAt w v ss := by
  rcases h with ⟨rfl, rfl⟩ | ⟨b, o, cap, rfl, h2, h3, h4⟩
  · exact Or.inl ⟨rfl, Or.inl rfl⟩
  · rcases Nat.eq_zero_or_pos ss.length with h0 | hp
    · refine Or.inl ⟨List.length_eq_zero_iff.1 h0, Or.inr ⟨_, cap, by rw [h0], h3⟩⟩
    · exact Or.inr ⟨b, o, cap, rfl, hp, h2, h3, h4⟩
theorem StrsAt.row {w : World} {v : Value} {ss : List ByteArray} (h : StrsAt w v ss) (h0 : 0 < ss.length) : StrRow w v ss := by
  obtain ⟨b, o, cap, e, -, h2, h3, h4⟩ := h.rows h0
  exact Or.inr ⟨b, o, cap, e, h2, h3, h4⟩
theorem StrRow.shape {w : World} {v : Value} {ss : List ByteArray} (h : StrRow w v ss) : ∃ a c, v = .slice a ss.length c ∧ ss.length ≤ 9223372036854775807 := by
  have := h.len
  unfold maxLen at this
  rcases h with ⟨rfl, rfl⟩ | ⟨b, o, cap, rfl, h2, h3, h4⟩
  · exact ⟨_, _, rfl, by decide⟩
  · exact ⟨_, _, rfl, by omega⟩

/-! ### Cells that are strings stay -/
def NSt (w w' : World) : Prop := ∀ p s, w.cell? p = some (.string s) → w'.cell? p = some (.string s)
theorem Below.nst {w w' : World} (h : Below w.heap.size w w') : NSt w w' := fun _ _ hc => (h.cell (World.block_lt_of_cell? _ _ hc)).trans hc
theorem NSt.then {w w1 w2 : World} (h : NSt w w1) (h2 : NSt w1 w2) : NSt w w2 := fun p s hc => h2 p s (h p s hc)
theorem NSt.refl (w : World) : NSt w w := fun _ _ h => h
theorem StrsAt.nst {w w' : World} {v : Value} {l : List ByteArray} (h : StrsAt w v l) (hn : NSt w w') : StrsAt w' v l := by
  rcases h with h | ⟨b, o, cap, h1, h2, h3, h4, h5⟩
  · exact Or.inl h
  · exact Or.inr ⟨b, o, cap, h1, h2, h3, h4, fun i hi => hn _ _ (h5 i hi)⟩
theorem StrRow.nst {w w' : World} {v : Value} {l : List ByteArray} (h : StrRow w v l) (hn : NSt w w') : StrRow w' v l := by
  rcases h with h | ⟨b, o, cap, h1, h3, h4, h5⟩
  · exact Or.inl h
  · exact Or.inr ⟨b, o, cap, h1, h3, h4, fun i hi => hn _ _ (h5 i hi)⟩
theorem DskAt.nst {w w' : World} {v : Value} {d : Dsk} (h : DskAt w v d) (hd : d.dirty = []) (hn : NSt w w') : DskAt w' v d := by
  obtain ⟨⟨sv, dv, e, h1, h2⟩, h3, h4⟩ := h
  refine ⟨⟨sv, dv, e, h1.nst hn, ?_⟩, h3, h4⟩
  rw [hd] at h2 ⊢
  rcases h2 with h2 | ⟨b, o, cap, -, h2, -⟩
  · exact Or.inl h2
  · simp at h2
def NoStr (u : Value) : Prop := ∀ s, u ≠ .string s
theorem noStr_int (k : IntKind) (n : Int) : NoStr (.int k n) := fun s h => by cases h
theorem noStr_slice (a : Option Addr) (n c : Nat) : NoStr (.slice a n c) := fun s h => by cases h
theorem noStr_bool (b : Bool) : NoStr (.bool b) := fun s h => by cases h

/-! ### A row of six cells -/
def At6 (t : TypeId) (w : World) (B : Nat) (a b c d e f : Value) : Prop := w.heap[B]? = some (.cells #[a, b, c, d, e, f] t (0, 0))
theorem At6.lt {t : TypeId} {w : World} {B : Nat} {a b c d e f : Value} (h : At6 t w B a b c d e f) : B < w.heap.size := (Array.getElem?_eq_some_iff.1 h).1
theorem At6.keep {t : TypeId} {w w' : World} {B : Nat} {a b c d e f : Value} (h : At6 t w B a b c d e f) (hb : Below w.heap.size w w') : At6 t w' B a b c d e f := (hb.block B h.lt).trans h
theorem At6.cells {t : TypeId} {w : World} {B : Nat} {a b c d e f : Value} (h : At6 t w B a b c d e f) : w.cell? ⟨B, 0, none⟩ = some a ∧ w.cell? ⟨B, 1, none⟩ = some b ∧ w.cell? ⟨B, 2, none⟩ = some c ∧ w.cell? ⟨B, 3, none⟩ = some d ∧ w.cell? ⟨B, 4, none⟩ = some e ∧ w.cell? ⟨B, 5, none⟩ = some f := by
  unfold At6 at h
  refine ⟨?_, ?_, ?_, ?_, ?_, ?_⟩ <;> simp [World.cell?, h]
theorem At6.free {t : TypeId} {w : World} {B : Nat} {a b c d e f : Value} (h : At6 t w B a b c d e f) : w.frozen? ⟨B, 0, none⟩ = false ∧ w.frozen? ⟨B, 1, none⟩ = false ∧ w.frozen? ⟨B, 2, none⟩ = false ∧ w.frozen? ⟨B, 3, none⟩ = false ∧ w.frozen? ⟨B, 4, none⟩ = false ∧ w.frozen? ⟨B, 5, none⟩ = false := by
  unfold At6 at h
  refine ⟨?_, ?_, ?_, ?_, ?_, ?_⟩ <;> simp [World.frozen?, h]
theorem At6.new (t : TypeId) (w : World) (a b c d e f : Value) : At6 t (w.alloc (.cells #[a, b, c, d, e, f] t)) w.heap.size a b c d e f := heap_alloc_new w _
def set6 (w : World) (B : Nat) (a b c d e f : Value) : World := (((((w.setCell ⟨B, 0, none⟩ a).setCell ⟨B, 1, none⟩ b).setCell ⟨B, 2, none⟩ c).setCell ⟨B, 3, none⟩ d).setCell ⟨B, 4, none⟩ e).setCell ⟨B, 5, none⟩ f
theorem At6.set {t : TypeId} {w : World} {B : Nat} {a b c d e f : Value} (h : At6 t w B a b c d e f) (a' b' c' d' e' f' : Value) : At6 t (set6 w B a' b' c' d' e' f') B a' b' c' d' e' f' := by
  have h0 : (w.setCell ⟨B, 0, none⟩ a').heap[B]? = some (.cells #[a', b, c, d, e, f] t (0, 0)) := by rw [heap_setCell_same _ _ _ _ _ _ h]; rfl
  have h1 : ((w.setCell ⟨B, 0, none⟩ a').setCell ⟨B, 1, none⟩ b').heap[B]? = some (.cells #[a', b', c, d, e, f] t (0, 0)) := by rw [heap_setCell_same _ _ _ _ _ _ h0]; rfl
  have h2 : (((w.setCell ⟨B, 0, none⟩ a').setCell ⟨B, 1, none⟩ b').setCell ⟨B, 2, none⟩ c').heap[B]? = some (.cells #[a', b', c', d, e, f] t (0, 0)) := by rw [heap_setCell_same _ _ _ _ _ _ h1]; rfl
  have h3 : ((((w.setCell ⟨B, 0, none⟩ a').setCell ⟨B, 1, none⟩ b').setCell ⟨B, 2, none⟩ c').setCell ⟨B, 3, none⟩ d').heap[B]? = some (.cells #[a', b', c', d', e, f] t (0, 0)) := by rw [heap_setCell_same _ _ _ _ _ _ h2]; rfl
  have h4 : (((((w.setCell ⟨B, 0, none⟩ a').setCell ⟨B, 1, none⟩ b').setCell ⟨B, 2, none⟩ c').setCell ⟨B, 3, none⟩ d').setCell ⟨B, 4, none⟩ e').heap[B]? = some (.cells #[a', b', c', d', e', f] t (0, 0)) := by rw [heap_setCell_same _ _ _ _ _ _ h3]; rfl
  unfold set6 At6
  rw [heap_setCell_same _ _ _ _ _ _ h4]; rfl
theorem set6_below {B B0 : Nat} {w0 w : World} (h : Below B0 w0 w) (hB : B0 ≤ B) (a b c d e f : Value) : Below B0 w0 (set6 w B a b c d e f) :=
  (((((h.setCell (p := ⟨B, 0, none⟩) hB _).setCell (p := ⟨B, 1, none⟩) hB _).setCell (p := ⟨B, 2, none⟩) hB _).setCell (p := ⟨B, 3, none⟩) hB _).setCell (p := ⟨B, 4, none⟩) hB _).setCell (p := ⟨B, 5, none⟩) hB _
theorem set6_block (w : World) (B k : Nat) (a b c d e f : Value) (hne : k ≠ B) : (set6 w B a b c d e f).heap[k]? = w.heap[k]? := by
  unfold set6
  rw [Below.heap_setCell _ _ _ _ hne, Below.heap_setCell _ _ _ _ hne, Below.heap_setCell _ _ _ _ hne, Below.heap_setCell _ _ _ _ hne, Below.heap_setCell _ _ _ _ hne, Below.heap_setCell _ _ _ _ hne]
theorem row_noStr {t : TypeId} {w : World} {B : Nat} {cs : Array Value} (h : w.heap[B]? = some (.cells cs t (0, 0))) (hs : ∀ (i : Nat) u, cs[i]? = some u → NoStr u) (po : Nat) (ps) (s : ByteArray) : w.cell? ⟨B, po, ps⟩ ≠ some (.string s) := by
  intro hc
  cases ps with
  | some q => simp [World.cell?, h] at hc
  | none =>
    have hc' : cs[po]? = some (.string s) := by simpa [World.cell?, h] using hc
    exact hs _ _ hc' s rfl
theorem set6_nst {t : TypeId} {w : World} {B : Nat} {a b c d e f : Value} (h : At6 t w B a b c d e f) (ha : NoStr a) (hb : NoStr b) (hc : NoStr c) (hd : NoStr d) (he : NoStr e) (hf : NoStr f) (a' b' c' d' e' f' : Value) : NSt w (set6 w B a' b' c' d' e' f') := by
  intro p s hp
  by_cases k : p.block = B
  · exfalso
    obtain ⟨pb, po, ps⟩ := p
    simp only at k
    subst k
    refine row_noStr h (fun i u hi => ?_) po ps s hp
    match i, hi with
    | 0, hi => simp at hi; exact hi ▸ ha
    | 1, hi => simp at hi; exact hi ▸ hb
    | 2, hi => simp at hi; exact hi ▸ hc
    | 3, hi => simp at hi; exact hi ▸ hd
    | 4, hi => simp at hi; exact hi ▸ he
    | 5, hi => simp at hi; exact hi ▸ hf
    | n + 6, hi => simp at hi
  · rw [World.cell?_of_block (set6_block w B _ _ _ _ _ _ _ k)]; exact hp
theorem set2_nst {t : TypeId} {w : World} {B : Nat} {a b : Value} (h : At2 t w B a b) (ha : NoStr a) (hb : NoStr b) (v0 v1 : Value) : NSt w (set2 w B v0 v1) := by
  intro p s hp
  by_cases k : p.block = B
  · exfalso
    obtain ⟨pb, po, ps⟩ := p
    simp only at k
    subst k
    refine row_noStr h (fun i u hi => ?_) po ps s hp
    match i, hi with
    | 0, hi => simp at hi; exact hi ▸ ha
    | 1, hi => simp at hi; exact hi ▸ hb
    | n + 2, hi => simp at hi
  · unfold set2
    rw [World.cell?_of_block (Below.heap_setCell _ _ _ _ k), World.cell?_of_block (Below.heap_setCell _ _ _ _ k)]; exact hp

/-! ### Ledgers -/
/-- The value v reads as the ledger l. -/
structure LedAt (w : World) (v : Value) (l : Led) : Prop where
  is : ∃ sv dv ev, v = .agg #[sv, dv, .int .i64 l.half, .int .i64 l.gen, .int .i64 l.used, ev] ∧ DskAt w (.agg #[sv, dv]) l.disk ∧ StrsAt w ev l.ents
  sizes : ∀ s ∈ l.ents, s.size ≤ maxLen
  half : -9223372036854775808 ≤ l.half ∧ l.half ≤ 9223372036854775807
  gen : -9223372036854775808 ≤ l.gen ∧ l.gen ≤ 9223372036854775807
  used : -9223372036854775808 ≤ l.used ∧ l.used ≤ 9223372036854775807
theorem LedAt.keep {w w' : World} {v : Value} {l : Led} (h : LedAt w v l) (hb : Below w.heap.size w w') : LedAt w' v l := by
  obtain ⟨⟨sv, dv, ev, e, h1, h2⟩, h3, h4, h5, h6⟩ := h
  exact ⟨⟨sv, dv, ev, e, h1.keep hb, h2.keep hb⟩, h3, h4, h5, h6⟩
theorem LedAt.nst {w w' : World} {v : Value} {l : Led} (h : LedAt w v l) (hd : l.disk.dirty = []) (hn : NSt w w') : LedAt w' v l := by
  obtain ⟨⟨sv, dv, ev, e, h1, h2⟩, h3, h4, h5, h6⟩ := h
  exact ⟨⟨sv, dv, ev, e, h1.nst hd hn, h2.nst hn⟩, h3, h4, h5, h6⟩
abbrev zeroV : Value := .int .i64 0
theorem nilLed_at (w : World) : LedAt w (.agg #[nilV, nilV, zeroV, zeroV, zeroV, nilV]) nilLed :=
  ⟨⟨nilV, nilV, nilV, rfl, emptyD_at w, Or.inl ⟨rfl, Or.inl rfl⟩⟩, fun s hs => (by cases hs), by decide, by decide, by decide⟩
theorem LedAt.shape {w : World} {v : Value} {l : Led} (h : LedAt w v l) : ∃ a c a' c' b k, v = .agg #[.slice a l.disk.secs.length c, .slice a' l.disk.dirty.length c', .int .i64 l.half, .int .i64 l.gen, .int .i64 l.used, .slice b l.ents.length k] ∧ l.disk.secs.length ≤ 9223372036854775807 ∧ l.disk.dirty.length ≤ 9223372036854775807 ∧ l.ents.length ≤ 9223372036854775807 := by
  obtain ⟨⟨sv, dv, ev, rfl, h1, h2⟩, -⟩ := h
  obtain ⟨a, c, a', c', e, k1, k2⟩ := h1.shape
  simp only [Value.agg.injEq, Array.mk.injEq, List.cons.injEq, and_true] at e
  obtain ⟨rfl, rfl⟩ := e
  obtain ⟨b, k, rfl, -, k3⟩ := h2.shape
  exact ⟨a, c, a', c', b, k, rfl, k1, k2, k3⟩
theorem LedAt.parts {w : World} {s d h g u e : Value} {l : Led} (H : LedAt w (.agg #[s, d, h, g, u, e]) l) : DskAt w (.agg #[s, d]) l.disk ∧ StrsAt w e l.ents ∧ h = .int .i64 l.half ∧ g = .int .i64 l.gen ∧ u = .int .i64 l.used := by
  obtain ⟨⟨sv, dv, ev, e, h1, h2⟩, -⟩ := H
  simp only [Value.agg.injEq, Array.mk.injEq, List.cons.injEq, and_true] at e
  obtain ⟨rfl, rfl, rfl, rfl, rfl, rfl⟩ := e
  exact ⟨h1, h2, rfl, rfl, rfl⟩
theorem openL_dirty (d : Dsk) : (openL d).1.disk.dirty = [] := by
  rcases openL_cases d with ⟨n, g, u, es, h⟩ | h | h
  · rw [h.out]; exact h.clean
  · rw [h]; rfl
  · rw [h]; rfl

theorem infoLed : (Tryz.prog.info? 27).map (·.size) = some 6 := by kernel_rfl
/-- A ledger that lies in a cell as the first result, and a number beside it. -/
theorem results_led {fn : Func} {p q : Tmp} (h : fn.results = #[.cell p 27, .tmp q]) (tmps : Array Value) (w : World) (B : Nat) (a b c d e f : Value)
    (hp : tmps.getD p undef = .pointer (some ⟨B, 0, none⟩)) (hg : At6 27 w B a b c d e f) :
    (results fn tmps).run Tryz.prog w = .ok (.tuple #[.agg #[a, b, c, d, e, f], tmps.getD q undef]) w := by
  rw [results_cell_tmp h, hp]
  simp [asAddr, run_loadVar_row w B 27 27 _ (0, 0) _ hg Tryz.underlying27 rfl infoLed]
/-- A ledger and a number, as a call answers them. -/
def LedOut (r : Led × Int) (w : World) (e : Ending) (w' : World) : Prop := ∃ v, e = .returned (.tuple #[v, .int .i64 r.2]) ∧ LedAt w' v r.1 ∧ Below w.heap.size w w'
end Go.Proofs.YtkplpodljmlanaaGreatDoor
/-! The program's small functions of heads: whole, wide, sector, headText, size, firstEnd, by contracts. Conditions: numbers that have room; octet's errors lie where they lie. -/
namespace Go.Proofs.YtkplpodljmlanaaGreatDoor
open Go.RowKit Go.WideShapes

set_option maxRecDepth 100000 in
set_option maxHeartbeats 1000000 in
theorem lwhole_t (aD aS aZ : Addr) (s : ByteArray) (w : World) (he : Env w aD aS aZ) (hs : s.size ≤ 6) :
    Calls Tryz.prog 58 #[.string s] w fun e w' => e = .returned (.int .i64 (numL s.data.toList : Nat)) ∧ Below w.heap.size w w' := by
  have H := Whole_any aD aS aZ s w he (by omega)
  rw [show wholeOut s = (numL s.data.toList, 0) by simp [wholeOut]; omega] at H
  have hn : numL s.data.toList < 281474976710656 := by
    refine Nat.lt_of_lt_of_le (numL_lt s.data.toList) ?_
    exact Nat.pow_le_pow_right (n := 256) (by decide) (show s.data.toList.length ≤ 6 by simpa using hs)
  obtain ⟨n, hne⟩ : ∃ n, numL s.data.toList = n := ⟨_, rfl⟩
  rw [hne] at H hn ⊢
  have H := Lib.hid H
  have hu : IntKind.i64.wrap (n : Int) = (n : Int) := by rw [IntKind.wrap_i64]; omega
  clear he hne
  go_enter Tryz.func58, Tryz.ntmps58
  go_wp2_with fail
  refine H.out.mono ?_
  rintro e w1 ⟨rfl, hb⟩
  go_wp2_with fail
  go_ret
  exact ⟨rfl, hb⟩

set_option maxRecDepth 100000 in
set_option maxHeartbeats 1000000 in
theorem lwide_t (aD aS aZ : Addr) (n k : Nat) (w : World) (he : Env w aD aS aZ) (hk : k ≤ 6) (hn : n < 256 ^ k) :
    Calls Tryz.prog 76 #[.int .i64 n, .int .i64 k] w fun e w' => e = .returned (.string ⟨(wideL n k).toArray⟩) ∧ Below w.heap.size w w' := by
  have hn2 : n < 281474976710656 := Nat.lt_of_lt_of_le hn (Nat.pow_le_pow_right (n := 256) (by decide) hk)
  have H := Wide_any aD aS aZ n k w he (by omega)
  rw [show wideOut n (k : Int) = (⟨(wideL n k).toArray⟩, 0) by
    unfold wideOut
    rw [if_neg (by omega), Int.toNat_natCast, if_pos hn]] at H
  have H := Lib.hid H
  have hu : IntKind.u64.wrap (n : Int) = (n : Int) := by rw [IntKind.wrap_u64]; omega
  clear he hn
  go_enter Tryz.func76, Tryz.ntmps76
  go_wp2_with fail
  refine H.out.mono ?_
  rintro e w1 ⟨rfl, hb⟩
  go_wp2_with fail
  go_ret
  exact ⟨rfl, hb⟩

theorem repeat_zero (n : Nat) : Lib.repeatL (⟨#[0]⟩ : ByteArray).data.toList n = List.replicate n 0 := by
  have h := Lib.repeatL_replicate (0 : UInt8) 1 n
  rw [Nat.mul_one] at h
  exact h
theorem secB'_eq (s : ByteArray) : s.extract 0 (min s.size 128) ++ (⟨(List.replicate (128 - (min s.size 128)) 0).toArray⟩ : ByteArray) = secB' s.data.toList := by
  apply ByteArray.ext
  apply Array.ext'
  show _ = secL s.data.toList
  rw [ByteArray.data_append]
  unfold secL
  simp only [Array.toList_append, ByteArray.data_extract, Array.toList_extract]
  have hz : s.data.toList.length = s.size := toList_size s
  have e1 : (List.extract s.data.toList 0 (min s.size 128)) = s.data.toList.take 128 := by
    simp only [List.extract_eq_take_drop, List.drop_zero, Nat.sub_zero]
    rw [← hz, List.take_eq_take_iff]
    omega
  rw [e1]
  congr 2
  omega
set_option maxRecDepth 100000 in
set_option maxHeartbeats 1000000 in
theorem lsector_t (s : ByteArray) (w : World) (hs : s.size ≤ 1099511627776) :
    Calls Tryz.prog 75 #[.string s] w fun e w' => e = .returned (.string (secB' s.data.toList)) ∧ Below w.heap.size w w' := by
  have HE := secB'_eq s
  obtain ⟨m, hm⟩ : ∃ m, min s.size 128 = m := ⟨_, rfl⟩
  have hm1 : m ≤ 128 ∧ m ≤ s.size := by omega
  have hmin : min (s.size : Int) 128 = (m : Int) := by omega
  have hz : (s.extract 0 m).size = m := by simp; omega
  have R := Tryz.strings_Repeat ⟨#[0]⟩ (128 - m) w (by show 128 - m ≤ _; omega) (by show 1 * (128 - m) ≤ _; omega)
  rw [repeat_zero] at R
  rw [hm] at HE
  obtain ⟨x, hx⟩ : ∃ x, s.extract 0 m = x := ⟨_, rfl⟩
  rw [hx] at hz HE
  obtain ⟨z, hzz⟩ : ∃ z : ByteArray, ⟨(List.replicate (128 - m) 0).toArray⟩ = z := ⟨_, rfl⟩
  rw [hzz] at R HE
  have hzs : z.size = 128 - m := by rw [← hzz]; simp [ByteArray.size]
  have R := Lib.hid R
  have HE := Lib.hid HE
  have q1 : (x.size : Int) = (m : Int) := by omega
  have q2 : (128 : Int) - (m : Int) = ((128 - m : Nat) : Int) := by omega
  have hx2 : s.extract 0 (m : Int).toNat = x := by rw [Int.toNat_natCast]; exact hx
  clear hm hz hzz
  go_enter Tryz.func75, Tryz.ntmps75
  go_wp2_with fail
  refine R.out.mono ?_
  rintro e w1 ⟨rfl, hb⟩
  go_wp2_with fail
  go_ret
  exact ⟨by rw [← HE.out]; rfl, hb⟩

theorem headB_eq (g u : Nat) : secB' (((⟨#[108, 101, 100]⟩ : ByteArray) ++ (⟨(wideL g 6).toArray⟩ : ByteArray) ++ (⟨(wideL u 3).toArray⟩ : ByteArray)).data.toList) = headB g u := by
  apply ByteArray.ext
  apply Array.ext'
  show secL _ = headL g u
  simp only [ByteArray.data_append, Array.toList_append]
  unfold secL headL
  rw [List.take_of_length_le (by simp [wideL_length])]
  simp [wideL_length]
set_option maxRecDepth 100000 in
set_option maxHeartbeats 1000000 in
theorem headText_t (aD aS aZ : Addr) (g u : Nat) (w : World) (he : Env w aD aS aZ) (hg : g < 281474976710656) (hu : u < 16777216) :
    Calls Tryz.prog 60 #[.int .i64 g, .int .i64 u] w fun e w' => e = .returned (.string (headB g u)) ∧ Below w.heap.size w w' := by
  have HE := Lib.hid (headB_eq g u)
  have W1 := Lib.hid (lwide_t aD aS aZ g 6 w he (by omega) hg)
  have W2 := Lib.hid (fun w1 (h : Below w.heap.size w w1) => lwide_t aD aS aZ u 3 w1 (he.keep h) (by omega) hu)
  have z1 : (⟨(wideL g 6).toArray⟩ : ByteArray).size = 6 := wideL_size _ _
  have z2 : (⟨(wideL u 3).toArray⟩ : ByteArray).size = 3 := wideL_size _ _
  obtain ⟨x, hx⟩ : ∃ x : ByteArray, ⟨(wideL g 6).toArray⟩ = x := ⟨_, rfl⟩
  obtain ⟨y, hy⟩ : ∃ x : ByteArray, ⟨(wideL u 3).toArray⟩ = x := ⟨_, rfl⟩
  rw [hx] at HE W1 z1
  rw [hy] at HE W2 z2
  have S := Lib.hid (fun w1 => show Calls Tryz.prog 75 #[.string ((⟨#[108, 101, 100]⟩ : ByteArray) ++ x ++ y)] w1 fun e w' => e = .returned (.string (headB g u)) ∧ Below w1.heap.size w1 w' from by
    have := lsector_t ((⟨#[108, 101, 100]⟩ : ByteArray) ++ x ++ y) w1 (by rw [ByteArray.size_append, ByteArray.size_append]; show 3 + x.size + y.size ≤ _; omega)
    rwa [HE.out] at this)
  clear he hx hy HE
  go_enter Tryz.func60, Tryz.ntmps60
  go_wp2_with fail
  refine W1.out.mono ?_
  rintro e w1 ⟨rfl, hb1⟩
  have HB1 := Lib.hid hb1
  clear hb1
  go_wp2_with fail
  refine (W2.out w1 HB1.out).mono ?_
  rintro e w2 ⟨rfl, hb2⟩
  have HB2 := Lib.hid (Below.then HB1.out hb2)
  clear hb2
  go_wp2_with fail
  refine (S.out w2).mono ?_
  rintro e w3 ⟨rfl, hb3⟩
  go_wp2_with fail
  go_ret
  exact ⟨rfl, Below.then HB2.out hb3⟩

set_option maxRecDepth 100000 in
set_option maxHeartbeats 1000000 in
theorem size_t (a b : Nat) (w : World) (ha : a + 1 ≤ b) (hb : b ≤ 100) :
    Calls Tryz.prog 59 #[.agg #[.int .i64 a, .int .i64 b]] w fun e w' => e = .returned (.int .i64 (((b - a - 1) * 128 : Nat) : Int)) ∧ Below w.heap.size w w' := by
  have q : ((b : Int) - (a : Int) - 1) * 128 = (((b - a - 1) * 128 : Nat) : Int) := by omega
  have HQ := Lib.hid q
  obtain ⟨c, rfl⟩ : ∃ c, b = a + 1 + c := ⟨b - (a + 1), by omega⟩
  have HB := Lib.hid (below_new w (.cells #[.int .i64 a, .int .i64 ((a + 1 + c : Nat) : Int)] 71))
  clear q
  go_enter Tryz.func59, Tryz.ntmps59
  go_wp2_with fail
  go_ret
  exact ⟨by rw [← HQ.out]; go_num, HB.out⟩
end Go.Proofs.YtkplpodljmlanaaGreatDoor
/-! The program's halfOf, room and firstEnd, by contracts. Conditions: the disk may be. -/
namespace Go.Proofs.YtkplpodljmlanaaGreatDoor
open Go.RowKit Go.WideShapes

theorem infoHalf : (Tryz.prog.info? 71).map (·.size) = some 2 := by kernel_rfl
/-- A half as a value. -/
abbrev halfV (d : Dsk) (n : Nat) : Value := .agg #[.int .i64 ((n * hOf d : Nat) : Int), .int .i64 (((n + 1) * hOf d : Nat) : Int)]

set_option maxRecDepth 100000 in
set_option maxHeartbeats 2000000 in
theorem halfOf_t (v : Value) (d : Dsk) (n : Nat) (w : World) (h : DskAt w v d) (hn : n ≤ 1) (h64 : d.secs.length ≤ 64) :
    Calls Tryz.prog 35 #[v, .int .i64 n] w fun e w' => e = .returned (halfV d n) ∧ Below w.heap.size w w' := by
  obtain ⟨a, c, a', c', rfl, -, -⟩ := h.shape
  have HE := Lib.hid (show hOf d = d.secs.length / 2 from rfl)
  obtain ⟨N, hN⟩ : ∃ N, d.secs.length = N := ⟨_, rfl⟩
  obtain ⟨N', hN'⟩ : ∃ N, d.dirty.length = N := ⟨_, rfl⟩
  rw [hN] at HE h64 ⊢
  rw [hN']
  obtain ⟨k, hk⟩ : ∃ k, hOf d = k := ⟨_, rfl⟩
  unfold halfV
  rw [hk] at HE ⊢
  have hq : N / 2 = k := HE.out.symm
  have q1 : (N : Int) / 2 = (k : Int) := by omega
  have q2 : (N : Int).tdiv 2 = (k : Int) := by rw [Int.tdiv_eq_ediv_of_nonneg (by omega)]; exact q1
  have hk32 : k ≤ 32 := by omega
  obtain ⟨p, hp⟩ : ∃ p, n * k = p := ⟨_, rfl⟩
  obtain ⟨r, hr⟩ : ∃ r, (n + 1) * k = r := ⟨_, rfl⟩
  have hpi : (n : Int) * (k : Int) = (p : Int) := by rw [← hp]; push_cast; rfl
  have hri : ((n : Int) + 1) * (k : Int) = (r : Int) := by rw [← hr]; push_cast; rfl
  have hp64 : p ≤ 64 := by rcases (show n = 0 ∨ n = 1 by omega) with rfl | rfl <;> omega
  have hr64 : r ≤ 64 := by rcases (show n = 0 ∨ n = 1 by omega) with rfl | rfl <;> omega
  rw [hp, hr]
  obtain ⟨W, hW⟩ : ∃ W, (w.alloc (.cells #[.slice a N c, .slice a' N' c'] 25)).alloc (.cells #[zeroV, zeroV] 71) = W := ⟨_, rfl⟩
  have HB := Lib.hid (show Below w.heap.size w W by rw [← hW]; exact Below.then (below_new _ _) (below_new _ _))
  have HA := Lib.hid (show At2 25 W w.heap.size (.slice a N c) (.slice a' N' c') by rw [← hW]; exact (At2.new _ _ _ _).keep (below_new _ _))
  have HC := Lib.hid (show At2 71 W (w.heap.size + 1) zeroV zeroV by
    rw [← hW]
    have e := At2.new 71 (w.alloc (.cells #[.slice a N c, .slice a' N' c'] 25)) zeroV zeroV
    rwa [World.size_alloc] at e)
  have HW := Lib.hid hW
  clear hW h hN hN' hk HE hq hp hr
  go_enter Tryz.func35, Tryz.ntmps35
  go_upto_region 1 with fail
  rw [HW.out]
  obtain ⟨a0, a1⟩ := HA.out.cells
  obtain ⟨b0, b1⟩ := HC.out.cells
  obtain ⟨f0, f1⟩ := HC.out.free
  go_wp2_with fail
  exact bodyPost_ret (results_cell_row (p := 4) rfl _ _ (w.heap.size + 1) 71 _ (0, 0) _ rfl (HC.out.set _ _) Tryz.underlying71 rfl infoHalf) rfl ⟨rfl, set2_below HB.out (by omega) _ _⟩

/-! ### A room's bytes -/
theorem join_flat : ∀ l : List (List UInt8), Lib.join l [] = l.flatten
  | [] => rfl
  | x :: r => by
    rw [Lib.join_cons, List.flatten_cons]
    congr 1
    simp [Lib.joinTail]
theorem room_join (d : Dsk) (n : Nat) (hlt : ∀ i, i < hOf d - 1 → n * hOf d + 1 + i < d.secs.length) : (((d.secs.drop (n * hOf d + 1)).take (hOf d - 1)).map (·.data.toList)).flatten = roomL d n := by
  unfold roomL
  rw [List.flatMap_def]
  congr 1
  apply List.ext_getElem?
  intro i
  rw [List.getElem?_map, List.getElem?_map, List.getElem?_take]
  by_cases hi : i < hOf d - 1
  · have hk := hlt i hi
    rw [if_pos hi, List.getElem?_drop, List.getElem?_eq_getElem hk, List.getElem?_range hi]
    show some _ = some (secAt d _)
    unfold secAt
    rw [List.getD_eq_getElem?_getD, List.getElem?_eq_getElem hk]
    rfl
  · rw [if_neg hi, List.getElem?_eq_none (l := List.range _) (by simpa using hi)]
    rfl

theorem room_size (d : Dsk) (n : Nat) (h : RightIs d) (hn : n ≤ 1) : (⟨(roomL d n).toArray⟩ : ByteArray).size = roomN d := by
  show (roomL d n).toArray.size = _
  rw [List.size_toArray, room_length h hn]

set_option maxRecDepth 100000 in
set_option maxHeartbeats 2000000 in
theorem room_t (v : Value) (d : Dsk) (n : Nat) (w : World) (h : DskAt w v d) (hn : n ≤ 1) (hr : RightIs d) :
    Calls Tryz.prog 38 #[halfV d n, v] w fun e w' => e = .returned (.string ⟨(roomL d n).toArray⟩) ∧ Below w.heap.size w w' := by
  have h2 := hOf_two hr
  have hlt : ∀ i, i < hOf d - 1 → n * hOf d + 1 + i < d.secs.length := fun i hi => half_lt hn hi
  have hJ := room_join d n hlt
  have hlen := room_length hr hn
  have hrn := roomN_le hr
  obtain ⟨⟨sv, dv, rfl, hs, hd⟩, -, -⟩ := h
  obtain ⟨sb, so, sc, rfl, s1, s2, s3, s4⟩ := hs.rows (by have := hr.least; omega)
  obtain ⟨da, dc, rfl, -, -⟩ := hd.shape
  unfold halfV
  obtain ⟨k, hk⟩ : ∃ k, hOf d = k := ⟨_, rfl⟩
  obtain ⟨L, hL⟩ : ∃ L, (d.secs.drop (n * hOf d + 1)).take (hOf d - 1) = L := ⟨_, rfl⟩
  have hLl : L.length = k - 1 := by
    rw [← hL, List.length_take, List.length_drop, hk]
    have := hlt (k - 2) (by omega)
    rw [hk] at this
    omega
  have J := fun (W : World) (hb : Below w.heap.size w W) => Tryz.strings_Join sb (so + (n * k + 1)) (sc - (n * k + 1)) L ⟨#[]⟩ W (fun j x hx => by
      rw [← hL, List.getElem?_take] at hx
      split at hx
      · rename_i hj
        rw [hk] at hj
        rw [List.getElem?_drop, hk] at hx
        have hjj := hlt j (by omega)
        rw [hk] at hjj
        rw [List.getElem?_eq_getElem hjj] at hx
        have := Below.keepc hb (s4 _ hjj)
        rw [show so + (n * k + 1 + j) = so + (n * k + 1) + j by omega] at this
        rw [this]
        simpa using hx
      · cases hx) (by
        have := s4 0 s1
        have := World.block_lt_of_cell? _ _ this
        have := hb.size
        simp only at *
        omega) (by omega) (by
        have := hlt (k - 2) (by omega)
        rw [hk] at this
        omega) (by
        rw [← hL, show ((⟨#[]⟩ : ByteArray).data.toList) = [] from rfl, join_flat, hJ, hlen]; omega)
  rw [hL] at hJ
  rw [show ((⟨#[]⟩ : ByteArray).data.toList) = [] from rfl, join_flat, hJ, hLl] at J
  obtain ⟨R, hR⟩ : ∃ R : ByteArray, ⟨(roomL d n).toArray⟩ = R := ⟨_, rfl⟩
  rw [hR] at J ⊢
  have J := Lib.hid J
  obtain ⟨N, hN⟩ : ∃ N, d.secs.length = N := ⟨_, rfl⟩
  obtain ⟨p, hp⟩ : ∃ p, n * k = p := ⟨_, rfl⟩
  obtain ⟨r, hrr⟩ : ∃ r, (n + 1) * k = r := ⟨_, rfl⟩
  have hpr : r = p + k := by rw [← hrr, ← hp, Nat.succ_mul]
  have hrN : r ≤ N := by
    have := hlt (k - 2) (by omega)
    rw [hk, hp, hN] at this
    omega
  rw [hN, List.length_map]
  rw [hN] at s2
  rw [hk, hp, hrr]
  rw [hp] at J
  obtain ⟨W, hW⟩ : ∃ W, (w.alloc (.cells #[.int .i64 p, .int .i64 r] 71)).alloc (.cells #[.slice (some ⟨sb, so, none⟩) N sc, .slice da d.dirty.length dc] 25) = W := ⟨_, rfl⟩
  have HB := Lib.hid (show Below w.heap.size w W by rw [← hW]; exact Below.then (below_new _ _) (below_new _ _))
  have HA := Lib.hid (show At2 71 W w.heap.size (.int .i64 p) (.int .i64 r) by rw [← hW]; exact (At2.new _ _ _ _).keep (below_new _ _))
  have HC := Lib.hid (show At2 25 W (w.heap.size + 1) (.slice (some ⟨sb, so, none⟩) N sc) (.slice da d.dirty.length dc) by
    rw [← hW]
    have e := At2.new 25 (w.alloc (.cells #[.int .i64 p, .int .i64 r] 71)) (.slice (some ⟨sb, so, none⟩) N sc) (.slice da d.dirty.length dc)
    rwa [World.size_alloc] at e)
  have HW := Lib.hid hW
  have q1 : p + 1 ≤ r := by omega
  have q2 : r ≤ sc := by omega
  have q6 : ¬ sc = p + 1 := by omega
  have q3 : r - (p + 1) = k - 1 := by omega
  unfold maxLen at s3
  have q4 : ((p : Int) + 1).toNat = p + 1 := by omega
  have q5 : (r : Int).toNat = r := by omega
  clear hW hL hJ hlen hs hd s4 hN hp hrr hpr hrN hlt hk hR hr hrn hLl
  go_enter Tryz.func38, Tryz.ntmps38
  go_upto_region 1 with fail
  rw [HW.out]
  obtain ⟨a0, a1⟩ := HA.out.cells
  obtain ⟨b0, b1⟩ := HC.out.cells
  go_wp2_with fail
  refine (J.out W HB.out).mono ?_
  rintro e w1 ⟨rfl, hb⟩
  go_wp2_with fail
  go_ret
  exact ⟨rfl, Below.then HB.out hb⟩
end Go.Proofs.YtkplpodljmlanaaGreatDoor
/-! The program's told, by a contract: what a half's head tells. Conditions: the disk may be; octet's errors lie where they lie. -/
namespace Go.Proofs.YtkplpodljmlanaaGreatDoor
open Go.RowKit Go.WideShapes

theorem toldGo_if (room g u : Nat) (s : List UInt8) (hg : numL ((s.drop 3).take 6) = g) (hu : numL ((s.drop 9).take 3) = u) : toldGo room s = if 1 ≤ g ∧ g ≤ 1099511627776 ∧ u ≤ room ∧ s = headL g u then (g, u) else (0, 0) := by
  unfold toldGo; rw [hg, hu]
set_option maxRecDepth 100000 in
set_option maxHeartbeats 4000000 in
theorem told_t (aD aS aZ : Addr) (v : Value) (d : Dsk) (n : Nat) (w : World) (he : Env w aD aS aZ) (h : DskAt w v d) (hn : n ≤ 1) (hr : RightIs d) :
    Calls Tryz.prog 36 #[halfV d n, v] w fun e w' => e = .returned (.tuple #[.int .i64 ((toldL d n).1 : Nat), .int .i64 ((toldL d n).2 : Nat)]) ∧ Below w.heap.size w w' := by
  have h2 := hOf_two hr
  have hlt := head_lt hr hn
  have hrn := roomN_le hr
  have hzs := sec_size hr hlt
  have SZ := fun w => size_t (n * hOf d) ((n + 1) * hOf d) w (by rw [Nat.succ_mul]; omega) (by rw [Nat.succ_mul]; have := hr.most; omega)
  have hrm : ((n + 1) * hOf d - n * hOf d - 1) * 128 = roomN d := by rw [Nat.succ_mul]; unfold roomN; congr 1; omega
  rw [hrm] at SZ
  obtain ⟨⟨sv, dv, rfl, hs, hd⟩, -, -⟩ := h
  obtain ⟨sb, so, sc, rfl, s1, s2, s3, s4⟩ := hs.rows (by have := hr.least; omega)
  obtain ⟨da, dc, rfl, -, -⟩ := hd.shape
  unfold halfV
  have hc := s4 _ hlt
  obtain ⟨s, hsx⟩ : ∃ s, d.secs[n * hOf d] = s := ⟨_, rfl⟩
  have hsg : d.secs.getD (n * hOf d) ⟨#[]⟩ = s := by rw [List.getD_eq_getElem?_getD, List.getElem?_eq_getElem hlt, ← hsx]; rfl
  rw [hsx] at hc
  rw [hsg] at hzs
  have e1 : (s.extract 3 9).data.toList = (s.data.toList.drop 3).take 6 := Lib.extract_data _ _ _
  have e2 : (s.extract 9 12).data.toList = (s.data.toList.drop 9).take 3 := Lib.extract_data _ _ _
  have z1 : (s.extract 3 9).size ≤ 6 := by simp; omega
  have z2 : (s.extract 9 12).size ≤ 6 := by simp; omega
  obtain ⟨g, hg⟩ : ∃ g, numL ((s.data.toList.drop 3).take 6) = g := ⟨_, rfl⟩
  obtain ⟨u, hu⟩ : ∃ u, numL ((s.data.toList.drop 9).take 3) = u := ⟨_, rfl⟩
  have HT := Lib.hid (show toldL d n = if 1 ≤ g ∧ g ≤ 1099511627776 ∧ u ≤ roomN d ∧ s.data.toList = headL g u then (g, u) else (0, 0) by
    unfold toldL secAt
    rw [hsg]
    exact toldGo_if _ _ _ _ hg hu)
  have hgb : g < 281474976710656 := by
    rw [← hg, ← e1]
    refine Nat.lt_of_lt_of_le (numL_lt _) ?_
    exact Nat.pow_le_pow_right (n := 256) (by decide) (show (s.extract 3 9).data.toList.length ≤ 6 by rw [toList_size]; exact z1)
  have hub : u < 16777216 := by
    rw [← hu, ← e2]
    refine Nat.lt_of_lt_of_le (numL_lt _) ?_
    exact Nat.pow_le_pow_right (n := 256) (by decide) (show (s.extract 9 12).data.toList.length ≤ 3 by rw [toList_size]; simp; omega)
  have WG : ∀ w', Env w' aD aS aZ → _ := fun w' he' => lwhole_t aD aS aZ (s.extract 3 9) w' he' z1
  have WU : ∀ w', Env w' aD aS aZ → _ := fun w' he' => lwhole_t aD aS aZ (s.extract 9 12) w' he' z2
  rw [e1, hg] at WG
  rw [e2, hu] at WU
  have HX := Lib.hid (fun w' (he' : Env w' aD aS aZ) => headText_t aD aS aZ g u w' he' hgb hub)
  obtain ⟨x1, hx1⟩ : ∃ x, s.extract 3 9 = x := ⟨_, rfl⟩
  obtain ⟨x2, hx2⟩ : ∃ x, s.extract 9 12 = x := ⟨_, rfl⟩
  rw [hx1] at WG
  rw [hx2] at WU
  obtain ⟨N, hN⟩ : ∃ N, d.secs.length = N := ⟨_, rfl⟩
  obtain ⟨rm, hrm2⟩ : ∃ N, roomN d = N := ⟨_, rfl⟩
  obtain ⟨p, hp⟩ : ∃ p, n * hOf d = p := ⟨_, rfl⟩
  obtain ⟨r, hrr⟩ : ∃ r, (n + 1) * hOf d = r := ⟨_, rfl⟩
  obtain ⟨t, ht⟩ : ∃ t, toldL d n = t := ⟨_, rfl⟩
  rw [hN] at s2 hlt ⊢
  rw [List.length_map]
  rw [hp] at hlt hc SZ ⊢
  rw [hrr] at SZ ⊢
  rw [hrm2] at SZ HT hrn
  rw [ht] at HT ⊢
  have SZ := Lib.hid SZ
  have HE := Lib.hid he
  have HZS := Lib.hid hzs
  unfold maxLen at s3
  obtain ⟨W, hW⟩ : ∃ W, (w.alloc (.cells #[.int .i64 p, .int .i64 r] 71)).alloc (.cells #[.slice (some ⟨sb, so, none⟩) N sc, .slice da d.dirty.length dc] 25) = W := ⟨_, rfl⟩
  have HB := Lib.hid (show Below w.heap.size w W by rw [← hW]; exact Below.then (below_new _ _) (below_new _ _))
  have HA := Lib.hid (show At2 71 W w.heap.size (.int .i64 p) (.int .i64 r) by rw [← hW]; exact (At2.new _ _ _ _).keep (below_new _ _))
  have HC := Lib.hid (show At2 25 W (w.heap.size + 1) (.slice (some ⟨sb, so, none⟩) N sc) (.slice da d.dirty.length dc) by
    rw [← hW]
    have e := At2.new 25 (w.alloc (.cells #[.int .i64 p, .int .i64 r] 71)) (.slice (some ⟨sb, so, none⟩) N sc) (.slice da d.dirty.length dc)
    rwa [World.size_alloc] at e)
  have HW := Lib.hid hW
  have hcW := Below.keepc HB.out hc
  have WA := Lib.hid (show ∀ (x : ByteArray) (k : Nat), (x = x1 ∧ k = g) ∨ (x = x2 ∧ k = u) → ∀ w', Env w' aD aS aZ → Calls Tryz.prog 58 #[.string x] w' fun e w'' => e = .returned (.int .i64 (k : Nat)) ∧ Below w'.heap.size w' w'' from fun x k hx w' he' => by
    rcases hx with ⟨rfl, rfl⟩ | ⟨rfl, rfl⟩
    · exact WG w' he'
    · exact WU w' he')
  clear WG WU
  clear hW hs hd s4 hN hp hrr h2 hsx hsg e1 e2 hg hu hc hrm hrm2 ht he z1 z2 s1 hr
  go_enter Tryz.func36, Tryz.ntmps36
  go_upto_region 1 with fail
  rw [HW.out]
  obtain ⟨a0, a1⟩ := HA.out.cells
  obtain ⟨b0, b1⟩ := HC.out.cells
  go_upto_region 2 with fail
  have hbA := Below.refl W.heap.size W
  go_region_held3 (fun _ => True) (exact trivial)
    (first
    | (go_simp; go_at_call 58
       refine (WA.out _ _ (by first | exact Or.inl ⟨rfl, rfl⟩ | exact Or.inr ⟨rfl, rfl⟩) _ (HE.out.keep (by first | exact Below.then HB.out hbA | exact Below.then HB.out hbA.drew))).mono ?_
       rintro e wS ⟨rfl, hbS⟩
       have hbA : Below W.heap.size W wS := by first | exact Below.then hbA hbS | exact Below.then hbA.drew hbS))
  all_goals
    have HBA := Lib.hid (Below.then HB.out hbA)
    obtain ⟨a0, a1⟩ := (HA.out.keep hbA).cells
    have HXS := Lib.hid (HX.out _ (HE.out.keep HBA.out))
    have SZS := Lib.hid (SZ.out wS)
    clear hbA hcW b0 b1
    by_cases c1 : 1 ≤ g
    rotate_left
    · have hO := Lib.hid (show t = (0, 0) by rw [HT.out, if_neg (fun k => c1 k.1)])
      go_wp2_with fail
      go_ret2
      exact ⟨by rw [hO.out]; rfl, HBA.out⟩
    by_cases c2 : g ≤ 1099511627776
    rotate_left
    · have hO := Lib.hid (show t = (0, 0) by rw [HT.out, if_neg (fun k => c2 k.2.1)])
      go_wp2_with fail
      go_ret2
      exact ⟨by rw [hO.out]; rfl, HBA.out⟩
    by_cases c3 : u ≤ rm
    rotate_left
    · have hO := Lib.hid (show t = (0, 0) by rw [HT.out, if_neg (fun k => c3 k.2.2.1)])
      go_wp2_with fail
      refine SZS.out.mono ?_
      rintro e w2 ⟨rfl, hb2⟩
      have HB2 := Lib.hid (Below.then HBA.out hb2)
      clear hb2
      go_wp2_with fail
      go_ret2
      exact ⟨by rw [hO.out]; rfl, HB2.out⟩
    have HX2 := Lib.hid (fun w' (hb : Below wS.heap.size wS w') => HX.out w' (HE.out.keep (Below.then HBA.out hb)))
    by_cases c4 : s = headB g u
    rotate_left
    · have hO := Lib.hid (show t = (0, 0) by
        rw [HT.out, if_neg (fun k => c4 (by
          apply ByteArray.ext; apply Array.ext'
          rw [headB_list]; exact k.2.2.2))])
      have q : (s.toList == (headB g u).toList) = false := by rw [beqB]; exact decide_eq_false c4
      have q2 : (s.toList != (headB g u).toList) = true := by rw [bne, q]; rfl
      obtain ⟨hh, hhe⟩ : ∃ x, headB g u = x := ⟨_, rfl⟩
      rw [hhe] at q q2 HX2
      clear hhe c4
      go_wp2_with fail
      refine SZS.out.mono ?_
      rintro e w2 ⟨rfl, hb2⟩
      have HB2 := Lib.hid (Below.then HBA.out hb2)
      have HX3 := Lib.hid (HX2.out w2 hb2)
      clear hb2
      go_wp2_with fail
      refine HX3.out.mono ?_
      rintro e w3 ⟨rfl, hb3⟩
      have HB3 := Lib.hid (Below.then HB2.out hb3)
      clear hb3
      go_wp2_with fail
      go_ret2
      exact ⟨by rw [hO.out]; rfl, HB3.out⟩
    · have hO := Lib.hid (show t = (g, u) by
        rw [HT.out, if_pos ⟨c1, c2, c3, by rw [c4]; rfl⟩])
      have q : (s.toList == s.toList) = true := by rw [beqB]; exact decide_eq_true rfl
      have q2 : (s.toList != s.toList) = false := by rw [bne, q]; rfl
      rw [← c4] at HX2
      clear c4
      go_wp2_with fail
      refine SZS.out.mono ?_
      rintro e w2 ⟨rfl, hb2⟩
      have HB2 := Lib.hid (Below.then HBA.out hb2)
      have HX3 := Lib.hid (HX2.out w2 hb2)
      clear hb2
      go_wp2_with fail
      refine HX3.out.mono ?_
      rintro e w3 ⟨rfl, hb3⟩
      have HB3 := Lib.hid (Below.then HB2.out hb3)
      clear hb3
      go_wp2_with fail
      go_ret2
      exact ⟨by rw [hO.out]; rfl, HB3.out⟩
end Go.Proofs.YtkplpodljmlanaaGreatDoor
/-! The program's firstEnd and loose, by contracts: entries of however many. Conditions: a room's bytes are not too many; octet's errors lie where they lie. -/
namespace Go.Proofs.YtkplpodljmlanaaGreatDoor
open Go.RowKit Go.WideShapes

/-! ### Plain -/
def feN (s : ByteArray) : Nat := min s.size (2 + numL (s.data.toList.take 2))
theorem fe_take (x : ByteArray) : (x.extract 0 (feN x)).data.toList = x.data.toList.take (feN x) := by rw [Lib.extract_data]; simp
theorem loose_first_no (x : ByteArray) (h0 : x.size ≠ 0) (h : x.data.toList.length < 2 ∨ 4096 < numL (x.data.toList.take 2) ∨ x.data.toList.length - 2 < numL (x.data.toList.take 2)) : ∃ n, looseB (x.extract 0 (feN x)) = .inr n ∧ n ≠ 0 := by
  have hl := toList_size x
  rw [hl] at h
  have hf : 0 < feN x := by unfold feN; omega
  unfold looseB
  rw [fe_take]
  obtain ⟨l, hll⟩ : ∃ l, x.data.toList = l := ⟨_, rfl⟩
  have hfe : feN x = min l.length (2 + numL (l.take 2)) := by unfold feN; rw [hll, ← hl, hll]
  rw [hll] at hl h ⊢
  have hlen : (l.take (feN x)).length = feN x := by rw [List.length_take, hfe]; omega
  have hne : l.take (feN x) ≠ [] := by
    intro e
    rw [e] at hlen
    simp at hlen
    omega
  have ht : 2 ≤ l.length → (l.take (feN x)).take 2 = l.take 2 := fun h2 => by rw [List.take_take, Nat.min_eq_left (by rw [hfe]; omega)]
  by_cases h2 : l.length < 2
  · exact ⟨3, looseGo_short2 _ _ _ hne (by rw [hlen, hfe]; omega), by decide⟩
  · by_cases hbig : 4096 < numL (l.take 2)
    · exact ⟨2, looseGo_long _ _ _ (by rw [hlen, hfe]; omega) (Or.inl (by rw [ht (by omega)]; exact hbig)), by decide⟩
    · refine ⟨3, looseGo_short _ _ [] (by rw [hlen, hfe]; omega) (by rw [ht (by omega)]; exact fun k => k.elim hbig (by simp)) (by rw [ht (by omega), hlen, hfe]; omega), by decide⟩
theorem loose_first_ok (x : ByteArray) (h : ¬ (x.data.toList.length < 2 ∨ 4096 < numL (x.data.toList.take 2) ∨ x.data.toList.length - 2 < numL (x.data.toList.take 2))) :
    looseB (x.extract 0 (feN x)) = .inl [⟨((x.data.toList.drop 2).take (numL (x.data.toList.take 2))).toArray⟩] ∧ feN x = 2 + numL (x.data.toList.take 2) := by
  have hl := toList_size x
  have hfe : feN x = 2 + numL (x.data.toList.take 2) := by unfold feN; omega
  refine ⟨?_, hfe⟩
  unfold looseB
  rw [fe_take]
  obtain ⟨l, hll⟩ : ∃ l, x.data.toList = l := ⟨_, rfl⟩
  rw [hll] at hl h hfe ⊢
  have ht : (l.take (feN x)).take 2 = l.take 2 := by rw [List.take_take, Nat.min_eq_left (by rw [hfe]; omega)]
  have hlen : (l.take (feN x)).length = feN x := by rw [List.length_take, hfe]; omega
  rw [looseGo_more _ _ _ (by rw [hlen, hfe]; omega) (by rw [ht]; simp; omega) (by rw [ht, hlen, hfe]; omega), ht]
  have e1 : (l.take (feN x)).drop 2 = (l.drop 2).take (numL (l.take 2)) := by rw [List.drop_take, hfe]; congr 1; omega
  rw [e1, List.take_take, Nat.min_self, List.drop_take_self, looseGo_nil]
  rfl

/-! ### The program's -/
set_option maxRecDepth 100000 in
set_option maxHeartbeats 2000000 in
theorem firstEnd_t (aD aS aZ : Addr) (s : ByteArray) (w : World) (he : Env w aD aS aZ) (hs : s.size ≤ 1099511627776) :
    Calls Tryz.prog 61 #[.string s] w fun e w' => e = .returned (.int .i64 (feN s : Nat)) ∧ Below w.heap.size w w' := by
  obtain ⟨m, hm⟩ : ∃ m, min s.size 2 = m := ⟨_, rfl⟩
  have hmin : min (s.size : Int) 2 = (m : Int) := by omega
  have e1 : (s.extract 0 m).data.toList = s.data.toList.take 2 := by
    rw [Lib.extract_data]
    simp only [List.drop_zero, Nat.sub_zero]
    rw [List.take_eq_take_iff, toList_size]; omega
  have z1 : (s.extract 0 m).size ≤ 6 := by simp; omega
  have W := lwhole_t aD aS aZ (s.extract 0 m) w he z1
  rw [e1] at W
  obtain ⟨n, hn⟩ : ∃ n, numL (s.data.toList.take 2) = n := ⟨_, rfl⟩
  have hn2 : n < 65536 := by
    rw [← hn]
    refine Nat.lt_of_lt_of_le (numL_lt _) ?_
    exact Nat.pow_le_pow_right (n := 256) (by decide) (show (s.data.toList.take 2).length ≤ 2 by rw [List.length_take]; omega)
  obtain ⟨f, hf⟩ : ∃ f, feN s = f := ⟨_, rfl⟩
  have hff : f = min s.size (2 + n) := by rw [← hf, ← hn]; rfl
  rw [hn] at W
  rw [hf]
  obtain ⟨x, hx⟩ : ∃ x, s.extract 0 m = x := ⟨_, rfl⟩
  rw [hx] at W
  have W := Lib.hid W
  have q0 : m ≤ s.size := by omega
  have q1 : min (s.size : Int) (2 + (n : Int)) = (f : Int) := by omega
  have hx2 : s.extract 0 (m : Int).toNat = x := by rw [Int.toNat_natCast]; exact hx
  clear hm e1 z1 hn hff hf he
  go_enter Tryz.func61, Tryz.ntmps61
  go_wp2_with fail
  refine W.out.mono ?_
  rintro e w1 ⟨rfl, hb⟩
  go_wp2_with fail
  go_ret
  exact ⟨rfl, hb⟩

/-- What loose answers. -/
def LedLooseEnd (s : ByteArray) (w : World) (e : Ending) (w' : World) : Prop :=
  (∃ es v, entL s.data.toList = some es ∧ StrRow w' v es ∧ e = .returned (.tuple #[v, .int .i64 0]) ∧ Below w.heap.size w w') ∨
  (∃ n : Int, entL s.data.toList = none ∧ n ≠ 0 ∧ e = .returned (.tuple #[.slice none 0 0, .int .i64 n]) ∧ Below w.heap.size w w')
theorem one_strs (l : List ByteArray) : ∀ u ∈ strC l, u.oneCell' = true := by
  intro u hu
  obtain ⟨t, -, rfl⟩ := List.mem_map.1 hu
  rfl
set_option maxRecDepth 100000 in
set_option maxHeartbeats 4000000 in
theorem lloose_t (aD aS aZ : Addr) (s : ByteArray) (w : World) (he : Env w aD aS aZ) (hs : s.size ≤ 100000) :
    Calls Tryz.prog 37 #[.string s] w (LedLooseEnd s w) := by
  have HE := Lib.hid he
  clear he
  obtain ⟨i0, hi, hz0, hz1, hz2⟩ := info_parts infoStr
  go_enter Tryz.func37, Tryz.ntmps37
  go_wp2_with fail
  go_loopw [0, 4] (fun sv pv wr => ∃ (x : ByteArray) (acc : List ByteArray) (f n : Nat), x.size < f ∧ x.size + 2 * n ≤ s.size ∧ entGo f x.data.toList acc = entL s.data.toList ∧ acc.length = n ∧ sv = .string x ∧ (∃ a c, pv = .slice a n c) ∧ wr.ownsRow w.heap.size 9 1 pv n (strC acc) ∧ Below w.heap.size w wr) (fun sv _ _ => match sv with | .string x => x.size | _ => 0)
  case atStart => exact ⟨s, [], s.size + 1, 0, by omega, by omega, by unfold entL; rw [toList_size], rfl, rfl, ⟨_, _, rfl⟩, World.ownsRow_nil _ _ _ _, Below.refl _ _⟩
  case round =>
    obtain ⟨x, acc, f, n, hf, hx, hgo, hal, rfl, ⟨a, c, rfl⟩, ho, hb⟩ := hrel
    have HG := Lib.hid hgo
    have HL := Lib.hid hal
    have hbs := hb.size
    clear hgo hal
    by_cases hx0 : x.size = 0
    · have hxe : x = ⟨#[]⟩ := by
        apply ByteArray.ext; exact Array.eq_empty_of_size_eq_zero hx0
      have hd := Lib.hid (show entL s.data.toList = some acc by have := HG.out; rw [hxe] at this; rw [← this]; exact entGo_nil f acc)
      have hrow := Lib.hid (StrRow.of_own ho HL.out)
      subst hxe
      go_wp2_with fail
      go_ret2
      exact Or.inl ⟨acc, _, hd.out, hrow.out, rfl, hb⟩
    · have h0 : (x.toList == []) = false := by
        rw [beq_eq_false_iff_ne, ByteArray.toList_eq]; intro e; apply hx0; have := congrArg List.length e; simpa using this
      have h1 : x.toList.isEmpty = false := by
        rw [ByteArray.toList_eq, List.isEmpty_eq_false_iff]; intro e; apply hx0; have := congrArg List.length e; simpa using this
      obtain ⟨f, rfl⟩ : ∃ g, f = g + 1 := ⟨f - 1, by omega⟩
      have FE := Lib.hid (fun w' (hb' : Below wr.heap.size wr w') => firstEnd_t aD aS aZ x w' (HE.out.keep (Below.then hb hb')) (by omega))
      have LB := Lib.hid (fun w' (hb' : Below wr.heap.size wr w') => Loose_any aD aS aZ (x.extract 0 (feN x)) w' (HE.out.keep (Below.then hb hb')) (by simp; omega))
      have hfx : feN x ≤ x.size := by unfold feN; omega
      by_cases hbad : x.data.toList.length < 2 ∨ 4096 < numL (x.data.toList.take 2) ∨ x.data.toList.length - 2 < numL (x.data.toList.take 2)
      · obtain ⟨k, hk, hk0⟩ := loose_first_no x hx0 hbad
        have hno := Lib.hid (show entL s.data.toList = none by
          rw [← HG.out]
          exact entGo_no f _ _ (by intro e; apply hx0; rw [← toList_size, e]; rfl) hbad)
        obtain ⟨fe, hfe⟩ : ∃ fe, feN x = fe := ⟨_, rfl⟩
        rw [hfe] at FE LB hfx hk
        obtain ⟨y, hy⟩ : ∃ y, x.extract 0 fe = y := ⟨_, rfl⟩
        rw [hy] at LB hk
        have HK := Lib.hid hk
        have qk : (k != 0) = true := bne_iff_ne.2 hk0
        have HK0 := Lib.hid hk0
        clear hbad hk hfe hk0 ho
        have hb0 := Lib.hid hb
        go_wp2_with fail
        refine (FE.out wr (Below.refl _ _)).mono ?_
        rintro e w1 ⟨rfl, hb1⟩
        have HB1 := Lib.hid hb1
        clear hb1
        go_wp2_with fail
        refine (LB.out w1 HB1.out).mono ?_
        rintro e w2 (⟨ss, v, hl, -, -, rfl, hb2⟩ | ⟨n', hl, rfl, hb2⟩)
        · rw [HK.out] at hl; cases hl
        · obtain rfl : n' = k := by
            rw [HK.out] at hl
            simpa using hl.symm
          have HB2 := Lib.hid (Below.then hb0.out (Below.then HB1.out hb2))
          clear hb2 hl
          go_wp2_with fail
          go_ret2
          exact Or.inr ⟨_, hno.out, HK0.out, rfl, HB2.out⟩
      · obtain ⟨hk, hfe2⟩ := loose_first_ok x hbad
        have hmore := entGo_more f _ acc hbad
        obtain ⟨p, hp⟩ : ∃ p : ByteArray, ⟨((x.data.toList.drop 2).take (numL (x.data.toList.take 2))).toArray⟩ = p := ⟨_, rfl⟩
        rw [hp] at hk hmore
        obtain ⟨fe, hfe⟩ : ∃ fe, feN x = fe := ⟨_, rfl⟩
        rw [hfe] at FE LB hfx hk hfe2
        obtain ⟨y, hy⟩ : ∃ y, x.extract 0 fe = y := ⟨_, rfl⟩
        rw [hy] at LB hk
        have hrest : (x.extract fe x.size).data.toList = (x.data.toList.drop 2).drop (numL (x.data.toList.take 2)) := by
          rw [extract_end, List.drop_drop, hfe2]
        have hrz : (x.extract fe x.size).size = x.size - fe := by simp
        obtain ⟨r, hr⟩ : ∃ r, x.extract fe x.size = r := ⟨_, rfl⟩
        rw [hr] at hrest hrz
        have HGN := Lib.hid (show entGo f r.data.toList (acc ++ [p]) = entL s.data.toList by rw [← HG.out, hmore, hrest])
        have hfe3 : 2 ≤ fe := by omega
        have HK := Lib.hid hk
        have HO := Lib.hid ho
        have hb0 := Lib.hid hb
        clear hbad hk hfe hmore hrest hfe2 hp ho hb
        go_wp2_with fail
        refine (FE.out wr (Below.refl _ _)).mono ?_
        rintro e w1 ⟨rfl, hb1⟩
        have HB1 := Lib.hid hb1
        clear hb1
        go_wp2_with fail
        refine (LB.out w1 HB1.out).mono ?_
        rintro e w2 (⟨ss, v, hl, -, hrow, rfl, hb2⟩ | ⟨n', hl, rfl, hb2⟩)
        rotate_left
        · rw [HK.out] at hl; cases hl
        · obtain rfl : ss = [p] := by
            rw [HK.out] at hl
            simpa using hl.symm
          have HB2 := Lib.hid (Below.then hb0.out (Below.then HB1.out hb2))
          have HO2 := Lib.hid (HO.out.kept (grownBy_of_below (Below.then HB1.out hb2)) (by cases (Value.slice a n c).ownBlock <;> simp))
          obtain ⟨b, o, cap, rfl, -, -, hc⟩ : ∃ b o cap, v = .slice (some ⟨b, o, none⟩) 1 cap ∧ 1 ≤ cap ∧ cap ≤ maxLen ∧ w2.cell? ⟨b, o, none⟩ = some (.string p) := by
            rcases hrow with ⟨-, h0⟩ | ⟨b, o, cap, e, h1, h2, h3⟩
            · cases h0
            · exact ⟨b, o, cap, e, h1, h2, h3 0 (by simp)⟩
          clear hb2 hl hrow
          go_wp2_with (at_builtin; refine wpList_append_own _ rfl _ _ 22 rfl w.heap.size 9 i0 (.string ⟨#[]⟩) 1 16 Tryz.underlying22 hi hz0 hz1 hz2 rfl (by decide) _ n (strC acc) rfl HO2.out ⟨b, o, none⟩ 1 cap [.string p] rfl rfl ?c1 ?c2 ?c3 ?c4 ?c5 ?_)
          case c1 =>
            intro i u hi'
            match i, hi' with
            | 0, hi' => simp at hi'; subst hi'; rw [add_plain]; exact hc
            | i + 1, hi' => simp at hi'
          case c2 => intro u hu; simp at hu; subst hu; rfl
          case c3 => unfold maxLen; omega
          case c4 => omega
          case c5 => have := HB2.out.size; exact this
          intro v' w3 hown3 hgrow3 _
          have HB3 := Lib.hid (HB2.out.grown hgrow3 HB2.out.size (fun k hk => (HO2.out.lt k hk).1))
          have hv' : ∃ a c, v' = .slice a (n + 1) c := by
            rcases hown3.2 with ⟨_, h0⟩ | ⟨g, c', cur, hv, _⟩
            · omega
            · exact ⟨_, _, hv⟩
          obtain ⟨a', c', rfl⟩ := hv'
          have HO3 := Lib.hid hown3
          clear hown3 hgrow3
          go_wp2_with fail
          go_roundw
          case rel => exact ⟨r, acc ++ [p], f, n + 1, by omega, by omega, HGN.out, by simp [HL.out], rfl, ⟨_, _, rfl⟩, by simpa [strC] using HO3.out, HB3.out⟩
          case measure => simpa using by omega
end Go.Proofs.YtkplpodljmlanaaGreatDoor
/-! The program's Open of a disk, by a contract. Conditions: octet's errors lie where they lie. -/
namespace Go.Proofs.YtkplpodljmlanaaGreatDoor
open Go.RowKit Go.WideShapes

/-- Three stores into a block of six. -/
def set3 (w : World) (B : Nat) (c d e : Value) : World := ((w.setCell ⟨B, 2, none⟩ c).setCell ⟨B, 3, none⟩ d).setCell ⟨B, 4, none⟩ e
theorem At6.set3 {t : TypeId} {w : World} {B : Nat} {a b c d e f : Value} (h : At6 t w B a b c d e f) (c' d' e' : Value) : At6 t (set3 w B c' d' e') B a b c' d' e' f := by
  have h0 : (w.setCell ⟨B, 2, none⟩ c').heap[B]? = some (.cells #[a, b, c', d, e, f] t (0, 0)) := by rw [heap_setCell_same _ _ _ _ _ _ h]; rfl
  have h1 : ((w.setCell ⟨B, 2, none⟩ c').setCell ⟨B, 3, none⟩ d').heap[B]? = some (.cells #[a, b, c', d', e, f] t (0, 0)) := by rw [heap_setCell_same _ _ _ _ _ _ h0]; rfl
  unfold Go.Proofs.YtkplpodljmlanaaGreatDoor.set3 At6
  rw [heap_setCell_same _ _ _ _ _ _ h1]; rfl
theorem set3_below {B B0 : Nat} {w0 w : World} (h : Below B0 w0 w) (hB : B0 ≤ B) (c d e : Value) : Below B0 w0 (set3 w B c d e) :=
  ((h.setCell (p := ⟨B, 2, none⟩) hB _).setCell (p := ⟨B, 3, none⟩) hB _).setCell (p := ⟨B, 4, none⟩) hB _
/-- A disk and entries are stored into a block of six. -/
def setDE (w : World) (B : Nat) (a b f : Value) : World := ((w.setCell ⟨B, 0, none⟩ a).setCell ⟨B, 1, none⟩ b).setCell ⟨B, 5, none⟩ f
theorem At6.setDE {t : TypeId} {w : World} {B : Nat} {a b c d e f : Value} (h : At6 t w B a b c d e f) (a' b' f' : Value) : At6 t (setDE w B a' b' f') B a' b' c d e f' := by
  have h0 : (w.setCell ⟨B, 0, none⟩ a').heap[B]? = some (.cells #[a', b, c, d, e, f] t (0, 0)) := by rw [heap_setCell_same _ _ _ _ _ _ h]; rfl
  have h1 : ((w.setCell ⟨B, 0, none⟩ a').setCell ⟨B, 1, none⟩ b').heap[B]? = some (.cells #[a', b', c, d, e, f] t (0, 0)) := by rw [heap_setCell_same _ _ _ _ _ _ h0]; rfl
  unfold Go.Proofs.YtkplpodljmlanaaGreatDoor.setDE At6
  rw [heap_setCell_same _ _ _ _ _ _ h1]; rfl
theorem setDE_below {B B0 : Nat} {w0 w : World} (h : Below B0 w0 w) (hB : B0 ≤ B) (a b f : Value) : Below B0 w0 (setDE w B a b f) :=
  ((h.setCell (p := ⟨B, 0, none⟩) hB _).setCell (p := ⟨B, 1, none⟩) hB _).setCell (p := ⟨B, 5, none⟩) hB _
theorem setDE_block (w : World) (B k : Nat) (a b f : Value) (hne : k ≠ B) : (setDE w B a b f).heap[k]? = w.heap[k]? := by
  unfold setDE
  rw [Below.heap_setCell _ _ _ _ hne, Below.heap_setCell _ _ _ _ hne, Below.heap_setCell _ _ _ _ hne]
theorem setDE_nst {t : TypeId} {w : World} {B : Nat} {a b c d e f : Value} (h : At6 t w B a b c d e f) (ha : NoStr a) (hb : NoStr b) (hc : NoStr c) (hd : NoStr d) (he : NoStr e) (hf : NoStr f) (a' b' f' : Value) : NSt w (setDE w B a' b' f') := by
  intro p s hp
  by_cases k : p.block = B
  · exfalso
    obtain ⟨pb, po, ps⟩ := p
    simp only at k
    subst k
    refine row_noStr h (fun i u hi => ?_) po ps s hp
    match i, hi with
    | 0, hi => simp at hi; exact hi ▸ ha
    | 1, hi => simp at hi; exact hi ▸ hb
    | 2, hi => simp at hi; exact hi ▸ hc
    | 3, hi => simp at hi; exact hi ▸ hd
    | 4, hi => simp at hi; exact hi ▸ he
    | 5, hi => simp at hi; exact hi ▸ hf
    | n + 6, hi => simp at hi
  · rw [World.cell?_of_block (setDE_block w B _ _ _ _ k)]; exact hp
theorem At6.other {t : TypeId} {w w' : World} {B : Nat} {a b c d e f : Value} (h : At6 t w B a b c d e f) (hk : w'.heap[B]? = w.heap[B]?) : At6 t w' B a b c d e f := by unfold At6; rw [hk]; exact h

/-- What the loop over both halves knows. -/
def pkL (d : Dsk) : Nat → Nat × Nat × Nat
  | 0 => (0, 0, 0)
  | 1 => (0, (toldL d 0).1, (toldL d 0).2)
  | _ => (pickL d, (toldL d (pickL d)).1, (toldL d (pickL d)).2)
abbrev natV (n : Nat) : Value := .int .i64 (n : Int)
theorem pkL_step (d : Dsk) (k : Nat) (hk : k < 2) : pkL d (k + 1) = if (pkL d k).2.1 < (toldL d k).1 then (k, (toldL d k).1, (toldL d k).2) else pkL d k := by
  rcases (show k = 0 ∨ k = 1 by omega) with rfl | rfl
  · show (0, (toldL d 0).1, (toldL d 0).2) = if 0 < (toldL d 0).1 then _ else (0, 0, 0)
    by_cases h : 0 < (toldL d 0).1
    · rw [if_pos h]
    · rw [if_neg h]
      have := toldGo_zero (room := roomN d) (s := secAt d (0 * hOf d)) (by show (toldL d 0).1 = 0; omega)
      rw [show toldL d 0 = (0, 0) from this]
  · show (pickL d, (toldL d (pickL d)).1, (toldL d (pickL d)).2) = if (toldL d 0).1 < (toldL d 1).1 then _ else (0, (toldL d 0).1, (toldL d 0).2)
    unfold pickL
    by_cases h : (toldL d 0).1 < (toldL d 1).1
    · rw [if_pos h, if_pos h]
    · rw [if_neg h, if_neg h]
def LooseIs (s : List UInt8) (v : Value) (n : Int) (w : World) : Prop := (n = 0 ∧ ∃ es, entL s = some es ∧ StrRow w v es) ∨ (n ≠ 0 ∧ entL s = none)
theorem LooseIs.keep {s : List UInt8} {v : Value} {n : Int} {w w' : World} (h : LooseIs s v n w) (hb : Below w.heap.size w w') : LooseIs s v n w' := by
  rcases h with ⟨h1, es, h2, h3⟩ | h
  · exact Or.inl ⟨h1, es, h2, h3.keep hb⟩
  · exact Or.inr h
theorem looseIs_of {s : ByteArray} {w : World} {e : Ending} {w' : World} (h : LedLooseEnd s w e w') : ∃ a l c n, e = .returned (.tuple #[.slice a l c, .int .i64 n]) ∧ LooseIs s.data.toList (.slice a l c) n w' ∧ Below w.heap.size w w' := by
  rcases h with ⟨es, v, h1, h2, rfl, h3⟩ | ⟨n, h1, h2, rfl, h3⟩
  · obtain ⟨a, c, rfl, -⟩ := h2.shape
    exact ⟨a, _, c, 0, rfl, Or.inl ⟨rfl, es, h1, h2⟩, h3⟩
  · exact ⟨none, 0, 0, n, rfl, Or.inr ⟨h2, h1⟩, h3⟩
def openIn (d : Dsk) : Led × Int := if (toldL d (pickL d)).1 = 0 then (nilLed, 14)
  else match entL ((roomL d (pickL d)).take (toldL d (pickL d)).2) with
    | none => (nilLed, 14)
    | some es => (⟨d, pickL d, (toldL d (pickL d)).1, (toldL d (pickL d)).2, es⟩, 0)
theorem openL_eq (d : Dsk) : openL d = if d.right && d.dirty.isEmpty then openIn d else (nilLed, 1) := rfl
theorem openIn_no (d : Dsk) (h : (toldL d (pickL d)).1 = 0) : openIn d = (nilLed, 14) := by unfold openIn; rw [if_pos h]
theorem openIn_none (d : Dsk) (h : (toldL d (pickL d)).1 ≠ 0) (he : entL ((roomL d (pickL d)).take (toldL d (pickL d)).2) = none) : openIn d = (nilLed, 14) := by unfold openIn; rw [if_neg h, he]
theorem openIn_some (d : Dsk) {es : List ByteArray} (h : (toldL d (pickL d)).1 ≠ 0) (he : entL ((roomL d (pickL d)).take (toldL d (pickL d)).2) = some es) : openIn d = (⟨d, pickL d, (toldL d (pickL d)).1, (toldL d (pickL d)).2, es⟩, 0) := by unfold openIn; rw [if_neg h, he]

set_option maxRecDepth 100000 in
set_option maxHeartbeats 8000000 in
theorem Open_t (aD aS aZ : Addr) (v : Value) (d : Dsk) (w : World) (he : Env w aD aS aZ) (h : DskAt w v d) : Calls Tryz.prog 12 #[v] w (LedOut (openL d) w) := by
  have HV := Lib.hid h
  have HE := Lib.hid he
  obtain ⟨a, c, a', c', rfl, hl1, hl2⟩ := h.shape
  have HD := Lib.hid (openL_eq d)
  have HR := Lib.hid (right_iff d)
  obtain ⟨n', hn'⟩ : ∃ r, d.dirty.length = r := ⟨_, rfl⟩
  obtain ⟨n, hn⟩ : ∃ r, d.secs.length = r := ⟨_, rfl⟩
  obtain ⟨r, hr⟩ : ∃ r, d.right = r := ⟨_, rfl⟩
  obtain ⟨W, hW⟩ : ∃ W, (w.alloc (.cells #[.slice a d.secs.length c, .slice a' d.dirty.length c'] 25)).alloc (.cells #[nilV, nilV, zeroV, zeroV, zeroV, nilV] 27) = W := ⟨_, rfl⟩
  have hb0 : Below w.heap.size w W := by rw [← hW]; exact Below.then (below_new _ _) (below_new _ _)
  have R := Right_t _ d W (HV.out.keep hb0)
  rw [hn] at R hW HV hl1 ⊢
  rw [hn'] at R hW HV hl2 ⊢
  rw [hr] at HD HR R
  have HB := Lib.hid hb0
  have HA := Lib.hid (show At2 25 W w.heap.size (.slice a n c) (.slice a' n' c') by rw [← hW]; exact (At2.new _ _ _ _).keep (below_new _ _))
  have HC := Lib.hid (show At6 27 W (w.heap.size + 1) nilV nilV zeroV zeroV zeroV nilV by
    rw [← hW]
    have e := At6.new 27 (w.alloc (.cells #[.slice a n c, .slice a' n' c'] 25)) nilV nilV zeroV zeroV zeroV nilV
    rwa [World.size_alloc] at e)
  have HW := Lib.hid hW
  have HN := Lib.hid (And.intro hn hn')
  have R := Lib.hid R
  clear hW h he hn hn' hr hb0
  go_enter Tryz.func12, Tryz.ntmps12
  go_upto_region 1 with fail
  rw [HW.out]
  obtain ⟨a0, a1⟩ := HA.out.cells
  go_wp2_with fail
  refine R.out.mono ?_
  rintro e w1 ⟨rfl, hb1⟩
  have HB1 := Lib.hid hb1
  have HA1 := Lib.hid (HA.out.keep hb1)
  have HC1 := Lib.hid (HC.out.keep hb1)
  clear hb1 a0 a1 R
  cases r with
  | false =>
    have HO := Lib.hid (show openL d = (nilLed, 1) by rw [HD.out]; rfl)
    obtain ⟨f0, f1, f2, f3, f4, f5⟩ := HC1.out.free
    obtain ⟨c0, c1, c2, c3, c4, c5⟩ := HC1.out.cells
    go_wp2_with fail
    exact bodyPost_ret (results_led (p := 2) (q := 3) rfl _ _ (w.heap.size + 1) _ _ _ _ _ _ rfl (HC1.out.set _ _ _ _ _ _)) rfl ⟨_, by rw [HO.out]; rfl, by rw [HO.out]; exact nilLed_at _, set6_below (Below.then HB.out HB1.out) (by omega) _ _ _ _ _ _⟩
  | true =>
  have HRI := Lib.hid (HR.out.1 rfl)
  clear HR
  by_cases h0 : n' = 0
  rotate_left
  · have HO := Lib.hid (show openL d = (nilLed, 1) by
      rw [HD.out, show d.dirty.isEmpty = false by
        rw [List.isEmpty_eq_false_iff]
        intro e
        have := HN.out.2
        rw [e] at this
        exact h0 this.symm]
      rfl)
    obtain ⟨f0, f1, f2, f3, f4, f5⟩ := HC1.out.free
    obtain ⟨c0, c1, c2, c3, c4, c5⟩ := HC1.out.cells
    obtain ⟨a0, a1⟩ := HA1.out.cells
    have q : (0 : Int) < (n' : Int) := by omega
    go_wp2_with fail
    exact bodyPost_ret (results_led (p := 2) (q := 3) rfl _ _ (w.heap.size + 1) _ _ _ _ _ _ rfl (HC1.out.set _ _ _ _ _ _)) rfl ⟨_, by rw [HO.out]; rfl, by rw [HO.out]; exact nilLed_at _, set6_below (Below.then HB.out HB1.out) (by omega) _ _ _ _ _ _⟩
  subst h0
  have hdn : d.dirty = [] := List.length_eq_zero_iff.1 HN.out.2
  have HD2 := Lib.hid (show openL d = openIn d by rw [HD.out, hdn]; rfl)
  have HDN := Lib.hid hdn
  clear HD hdn
  obtain ⟨a0, a1⟩ := HA1.out.cells
  obtain ⟨W3, hW3⟩ : ∃ W, w1.alloc (.cells #[nilV, nilV, zeroV, zeroV, zeroV, nilV] 27) = W := ⟨_, rfl⟩
  have hb3 : Below w1.heap.size w1 W3 := by rw [← hW3]; exact below_new _ _
  obtain ⟨BL, hBL⟩ : ∃ b, w1.heap.size = b := ⟨_, rfl⟩
  have HL := Lib.hid (show At6 27 W3 BL nilV nilV zeroV zeroV zeroV nilV by rw [← hW3, ← hBL]; exact At6.new _ _ _ _ _ _ _ _)
  have HW3 := Lib.hid hW3
  have HB3 := Lib.hid hb3
  have KK := Lib.hid (show ∀ w', Below w1.heap.size w1 w' → Below w.heap.size w w' ∧ At2 25 w' w.heap.size (.slice a n c) (.slice a' 0 c') ∧ At6 27 w' (w.heap.size + 1) nilV nilV zeroV zeroV zeroV nilV ∧ DskAt w' (.agg #[.slice a n c, .slice a' 0 c']) d ∧ Env w' aD aS aZ from fun w' hb => by
    have h2 := Below.then (Below.then HB.out HB1.out) hb
    exact ⟨h2, HA1.out.keep hb, HC1.out.keep hb, HV.out.keep h2, HE.out.keep h2⟩)
  have HBL := Lib.hid hBL
  have hBne : w.heap.size + 1 < BL := by have := HC1.out.lt; omega
  have HBLE := Lib.hid (show BL ≤ w1.heap.size from Nat.le_of_eq hBL.symm)
  rw [hBL] at HB3 KK
  clear hW3 hb3 hBL HA1 HC1 HA HC
  go_wp2_with fail
  rw [HW3.out]
  rw [HBL.out]
  clear a0 a1
  go_loopw [20] (fun iv wr => ∃ k : Nat, k ≤ 2 ∧ iv = .int .i64 k ∧ At6 27 wr BL nilV nilV (natV (pkL d k).1) (natV (pkL d k).2.1) (natV (pkL d k).2.2) nilV ∧ Below BL w1 wr) (fun iv _ => 2 - (intOf iv).toNat)
  case atStart => exact ⟨0, by omega, rfl, HL.out, HB3.out⟩
  case round =>
    obtain ⟨k, hk, rfl, hL, hb⟩ := hrel
    have HLK := Lib.hid hL
    have HBK := Lib.hid hb
    clear hL hb
    have hrn := roomN_le HRI.out
    have HST := Lib.hid (pkL_step d k)
    obtain ⟨⟨x0, x1, x2⟩, hpk⟩ : ∃ t, pkL d k = t := ⟨_, rfl⟩
    rw [hpk] at HLK HST
    simp only at HLK HST
    have KB := Lib.hid (fun w' (hb : Below wr.heap.size wr w') => KK.out w' (HBK.out.trans (hb.mono (Nat.le_trans HBLE.out HBK.out.size))))
    by_cases hlt : k < 2
    · have CH := fun w' (hb : Below wr.heap.size wr w') => halfOf_t _ d k w' (KB.out w' hb).2.2.2.1 (by omega) HRI.out.most
      have CT := fun w' (hb : Below wr.heap.size wr w') => told_t aD aS aZ _ d k w' (KB.out w' hb).2.2.2.2 (KB.out w' hb).2.2.2.1 (by omega) HRI.out
      unfold halfV at CH CT
      obtain ⟨p, hp⟩ : ∃ p, k * hOf d = p := ⟨_, rfl⟩
      obtain ⟨r, hr⟩ : ∃ r, (k + 1) * hOf d = r := ⟨_, rfl⟩
      obtain ⟨⟨g, u⟩, ht⟩ : ∃ t, toldL d k = t := ⟨_, rfl⟩
      rw [hp, hr] at CH CT
      rw [ht] at CT HST
      simp only at CT
      have CH := Lib.hid CH
      have CT := Lib.hid CT
      have HSTk := Lib.hid (HST.out hlt)
      clear hp hr ht HST
      obtain ⟨a0, a1⟩ := (KB.out wr (Below.refl _ _)).2.1.cells
      have hlt' : (k : Int) < 2 := by omega
      have hbA := Below.refl wr.heap.size wr
      go_upto_region 7 with fail
      go_region_held3 (fun w' => w'.cell? ⟨w.heap.size, 0, none⟩ = some (.slice a n c) ∧ w'.cell? ⟨w.heap.size, 1, none⟩ = some (.slice a' 0 c')) (exact ⟨a0, a1⟩)
        (first
        | (go_simp; go_at_call 35
           refine (CH.out _ (by first | exact hbA | exact hbA.drew)).mono ?_
           rintro e wS ⟨rfl, hbS⟩
           have hbA : Below wr.heap.size wr wS := by first | exact Below.then hbA hbS | exact Below.then hbA.drew hbS
           obtain ⟨a0, a1⟩ := (KB.out _ hbA).2.1.cells)
        | (go_simp; go_at_call 36
           refine (CT.out _ (by first | exact hbA | exact hbA.drew)).mono ?_
           rintro e wS ⟨rfl, hbS⟩
           have hbA : Below wr.heap.size wr wS := by first | exact Below.then hbA hbS | exact Below.then hbA.drew hbS
           obtain ⟨a0, a1⟩ := (KB.out _ hbA).2.1.cells))
      all_goals
        have HLS := Lib.hid (HLK.out.keep hbA)
        have HBS := Lib.hid (show Below BL w1 wS from HBK.out.trans (hbA.mono (Nat.le_trans HBLE.out HBK.out.size)))
        clear hbA a0 a1
        obtain ⟨c0, c1, c2, c3, c4, c5⟩ := HLS.out.cells
        obtain ⟨f0, f1, f2, f3, f4, f5⟩ := HLS.out.free
        by_cases hg : x1 < g
        · have HPN := Lib.hid (show pkL d (k + 1) = (k, g, u) by rw [HSTk.out, if_pos hg])
          go_wp2_with fail
          go_roundw
          case rel => exact ⟨k + 1, by omega, by go_num, by rw [HPN.out]; exact HLS.out.set3 _ _ _, set3_below HBS.out (Nat.le_refl _) _ _ _⟩
          case measure => simp [intOf]; omega
        · have HPN := Lib.hid (show pkL d (k + 1) = (x0, x1, x2) by rw [HSTk.out, if_neg hg])
          go_wp2_with fail
          go_roundw
          case rel => exact ⟨k + 1, by omega, by go_num, by rw [HPN.out]; exact HLS.out, HBS.out⟩
          case measure => simp [intOf]; omega
    · obtain rfl : k = 2 := by omega
      have hp2 : pickL d = x0 ∧ (toldL d (pickL d)).1 = x1 ∧ (toldL d (pickL d)).2 = x2 := by
        have e : (pickL d, (toldL d (pickL d)).1, (toldL d (pickL d)).2) = (x0, x1, x2) := hpk
        simp only [Prod.mk.injEq] at e
        exact e
      have hx0 : x0 ≤ 1 := by rw [← hp2.1]; unfold pickL; split <;> omega
      have hx1 : x1 ≤ 1099511627776 := by rw [← hp2.2.1]; exact (toldGo_le _ _).1
      have hx2 : x2 ≤ roomN d := by rw [← hp2.2.2]; exact (toldGo_le _ _).2
      have HP2 := Lib.hid hp2
      have HS0 := Lib.hid (KB.out wr (Below.refl _ _))
      have hBr : w.heap.size ≤ w.heap.size + 1 := by omega
      clear hpk HST hp2 hlt
      obtain ⟨c0, c1, c2, c3, c4, c5⟩ := HLK.out.cells
      by_cases hg0 : x1 = 0
      · have HO := Lib.hid (show openL d = (nilLed, 14) by rw [HD2.out, openIn_no d (by rw [HP2.out.2.1]; exact hg0)])
        obtain ⟨f0, f1, f2, f3, f4, f5⟩ := HS0.out.2.2.1.free
        obtain ⟨g0, g1, g2, g3, g4, g5⟩ := HS0.out.2.2.1.cells
        have q : ((x1 : Int) == 0) = true := by rw [hg0]; rfl
        go_wp2_with fail
        exact bodyPost_ret (results_led (p := 2) (q := 3) rfl _ _ (w.heap.size + 1) _ _ _ _ _ _ rfl (HS0.out.2.2.1.set _ _ _ _ _ _)) rfl ⟨_, by rw [HO.out]; rfl, by rw [HO.out]; exact nilLed_at _, set6_below HS0.out.1 hBr _ _ _ _ _ _⟩
      · have q : ((x1 : Int) == 0) = false := beq_eq_false_iff_ne.2 (by omega)
        have CH := fun w' (hb : Below wr.heap.size wr w') => halfOf_t _ d x0 w' (KB.out w' hb).2.2.2.1 hx0 HRI.out.most
        have CR := fun w' (hb : Below wr.heap.size wr w') => room_t _ d x0 w' (KB.out w' hb).2.2.2.1 hx0 HRI.out
        unfold halfV at CH CR
        obtain ⟨p, hp⟩ : ∃ p, x0 * hOf d = p := ⟨_, rfl⟩
        obtain ⟨r, hr⟩ : ∃ r, (x0 + 1) * hOf d = r := ⟨_, rfl⟩
        have hRz := room_size d x0 HRI.out hx0
        have hRe : (⟨(roomL d x0).toArray⟩ : ByteArray).data.toList = roomL d x0 := rfl
        obtain ⟨R, hRR⟩ : ∃ R : ByteArray, ⟨(roomL d x0).toArray⟩ = R := ⟨_, rfl⟩
        rw [hp, hr] at CH CR
        rw [hRR] at CR hRz hRe
        have hyz : (R.extract 0 x2).size ≤ 3968 := by simp; omega
        have hye : (R.extract 0 x2).data.toList = (roomL d x0).take x2 := by rw [Lib.extract_data, hRe]; simp
        have hxR : x2 ≤ R.size := by omega
        obtain ⟨y, hy⟩ : ∃ y, R.extract 0 x2 = y := ⟨_, rfl⟩
        rw [hy] at hyz hye
        have hy2 : R.extract 0 (x2 : Int).toNat = y := by rw [Int.toNat_natCast]; exact hy
        have CL := Lib.hid (show ∀ w', Below wr.heap.size wr w' → Calls Tryz.prog 37 #[.string y] w' fun e w'' => ∃ a l c n, e = .returned (.tuple #[.slice a l c, .int .i64 n]) ∧ LooseIs y.data.toList (.slice a l c) n w'' ∧ Below w'.heap.size w' w'' from fun w' hb => (lloose_t aD aS aZ y w' (KB.out w' hb).2.2.2.2 (by omega)).mono fun e w'' h => looseIs_of h)
        have CH := Lib.hid CH
        have CR := Lib.hid CR
        have HYE := Lib.hid hye
        clear hp hr hRR hRz hRe hyz hye
        obtain ⟨a0, a1⟩ := HS0.out.2.1.cells
        have hbA := Below.refl wr.heap.size wr
        go_upto_region 13 with fail
        go_region_held3 (fun w' => w'.cell? ⟨w.heap.size, 0, none⟩ = some (.slice a n c) ∧ w'.cell? ⟨w.heap.size, 1, none⟩ = some (.slice a' 0 c') ∧ w'.cell? ⟨BL, 2, none⟩ = some (natV x0) ∧ w'.cell? ⟨BL, 4, none⟩ = some (natV x2)) (exact ⟨a0, a1, c2, c4⟩)
          (first
          | (go_simp; go_at_call 35
             refine (CH.out _ (by first | exact hbA | exact hbA.drew)).mono ?_
             rintro e wS ⟨rfl, hbS⟩
             have hbA : Below wr.heap.size wr wS := by first | exact Below.then hbA hbS | exact Below.then hbA.drew hbS
             obtain ⟨a0, a1⟩ := (KB.out _ hbA).2.1.cells
             obtain ⟨c0, c1, c2, c3, c4, c5⟩ := (HLK.out.keep hbA).cells)
          | (go_simp; go_at_call 38
             refine (CR.out _ (by first | exact hbA | exact hbA.drew)).mono ?_
             rintro e wS ⟨rfl, hbS⟩
             have hbA : Below wr.heap.size wr wS := by first | exact Below.then hbA hbS | exact Below.then hbA.drew hbS
             obtain ⟨a0, a1⟩ := (KB.out _ hbA).2.1.cells
             obtain ⟨c0, c1, c2, c3, c4, c5⟩ := (HLK.out.keep hbA).cells)
          | (go_simp; go_at_call 37
             refine (CL.out _ (by first | exact hbA | exact hbA.drew)).mono ?_
             rintro e wS ⟨ea, el, ec, en, rfl, hLI, hbS⟩
             have hbA : Below wr.heap.size wr wS := by first | exact Below.then hbA hbS | exact Below.then hbA.drew hbS
             obtain ⟨a0, a1⟩ := (KB.out _ hbA).2.1.cells
             obtain ⟨c0, c1, c2, c3, c4, c5⟩ := (HLK.out.keep hbA).cells))
        all_goals
          have HLS := Lib.hid (HLK.out.keep hbA)
          have HSS := Lib.hid (KB.out wS hbA)
          clear hbA a0 a1 c0 c1 c2 c3 c4 c5 HS0 CH CR CL
          rcases hLI with ⟨rfl, es, hes, hrow⟩ | ⟨hn0, hno⟩
          rotate_left
          · have HO := Lib.hid (show openL d = (nilLed, 14) by rw [HD2.out, openIn_none d (by rw [HP2.out.2.1]; exact hg0) (by rw [HP2.out.2.2, HP2.out.1, ← HYE.out]; exact hno)])
            have qe : (en != 0) = true := bne_iff_ne.2 hn0
            obtain ⟨f0, f1, f2, f3, f4, f5⟩ := HSS.out.2.2.1.free
            obtain ⟨g0, g1, g2, g3, g4, g5⟩ := HSS.out.2.2.1.cells
            clear hno hn0
            go_wp2_with fail
            exact bodyPost_ret (results_led (p := 2) (q := 3) rfl _ _ (w.heap.size + 1) _ _ _ _ _ _ rfl (HSS.out.2.2.1.set _ _ _ _ _ _)) rfl ⟨_, by rw [HO.out]; rfl, by rw [HO.out]; exact nilLed_at _, set6_below HSS.out.1 hBr _ _ _ _ _ _⟩
          · have HO := Lib.hid (show openL d = (⟨d, x0, x1, x2, es⟩, 0) by rw [HD2.out, openIn_some d (es := es) (by rw [HP2.out.2.1]; exact hg0) (by rw [HP2.out.2.2, HP2.out.1, ← HYE.out]; exact hes), HP2.out.2.1, HP2.out.2.2, HP2.out.1])
            have HES := Lib.hid (entL_inv hes).2
            have HROW := Lib.hid hrow
            have CLN := Lib.hid (show Calls Tryz.prog 39 #[.slice a n c] wS fun e w' => ∃ g c2, e = .returned (.slice (some ⟨g, 0, none⟩) n c2) ∧ StrsAt w' (.slice (some ⟨g, 0, none⟩) n c2) d.secs ∧ Below wS.heap.size wS w' from by
              have hs : StrsAt wS (.slice a n c) d.secs := by
                obtain ⟨⟨sv, dv, e, h1, -⟩, -, -⟩ := HSS.out.2.2.2.1
                simp only [Value.agg.injEq, Array.mk.injEq, List.cons.injEq, and_true] at e
                exact e.1 ▸ h1
              have h4 := HRI.out.least
              have h64 := HRI.out.most
              have := Clone_t a c d.secs wS (by rw [HN.out.1]; exact hs) (by omega) h64
              rw [HN.out.1] at this
              refine this.mono ?_
              rintro e w' ⟨g, c2, rfl, hown, hb⟩
              exact ⟨g, c2, rfl, StrsAt.of_own hown HN.out.1, hb⟩)
            obtain ⟨a0, a1⟩ := HSS.out.2.1.cells
            clear hes hrow
            go_wp2_with fail
            refine CLN.out.mono ?_
            rintro e w5 ⟨g, gc, rfl, hst, hb5⟩
            have HST5 := Lib.hid hst
            have HR5 := Lib.hid (HROW.out.keep hb5)
            have HL5 := Lib.hid (HLS.out.keep hb5)
            have HRES5 := Lib.hid (HSS.out.2.2.1.keep hb5)
            have HB5 := Lib.hid (Below.then HSS.out.1 hb5)
            clear hst hb5 a0 a1 CLN
            obtain ⟨c0, c1, c2, c3, c4, c5⟩ := HL5.out.cells
            obtain ⟨f0, f1, f2, f3, f4, f5⟩ := HL5.out.free
            go_upto_region 17 with fail
            obtain ⟨W6, hW6⟩ : ∃ W6, ((w5.setCell ⟨BL, 0, none⟩ (.slice (some ⟨g, 0, none⟩) n gc)).setCell ⟨BL, 1, none⟩ nilV).setCell ⟨BL, 5, none⟩ (.slice ea el ec) = W6 := ⟨_, rfl⟩
            have HL6 := Lib.hid (show At6 27 W6 BL (.slice (some ⟨g, 0, none⟩) n gc) nilV (natV x0) (natV x1) (natV x2) (.slice ea el ec) by rw [← hW6]; exact HL5.out.setDE _ _ _)
            have HN6 := Lib.hid (show NSt w5 W6 by rw [← hW6]; exact setDE_nst HL5.out (noStr_slice _ _ _) (noStr_slice _ _ _) (noStr_int _ _) (noStr_int _ _) (noStr_int _ _) (noStr_slice _ _ _) (.slice (some ⟨g, 0, none⟩) n gc) nilV (.slice ea el ec))
            have HRES6 := Lib.hid (HRES5.out.other (w' := W6) (by rw [← hW6]; exact setDE_block w5 BL (w.heap.size + 1) (.slice (some ⟨g, 0, none⟩) n gc) nilV (.slice ea el ec) (by omega)))
            have HB6 := Lib.hid (show Below w.heap.size w W6 by rw [← hW6]; exact setDE_below HB5.out (by omega) (.slice (some ⟨g, 0, none⟩) n gc) nilV (.slice ea el ec))
            rw [hW6]
            clear hW6 c0 c1 c2 c3 c4 c5 f0 f1 f2 f3 f4 f5
            obtain ⟨c0, c1, c2, c3, c4, c5⟩ := HL6.out.cells
            obtain ⟨f0, f1, f2, f3, f4, f5⟩ := HRES6.out.free
            obtain ⟨r0, r1, r2, r3, r4, r5⟩ := HRES6.out.cells
            go_wp2_with fail
            refine bodyPost_ret (results_led (p := 2) (q := 3) rfl _ _ (w.heap.size + 1) _ _ _ _ _ _ rfl (HRES6.out.set _ _ _ _ _ _)) rfl ⟨_, by rw [HO.out]; rfl, ?_, set6_below HB6.out hBr _ _ _ _ _ _⟩
            have hns := HN6.out.then (set6_nst HRES6.out (noStr_slice _ _ _) (noStr_slice _ _ _) (noStr_int _ _) (noStr_int _ _) (noStr_int _ _) (noStr_slice _ _ _) (.slice (some ⟨g, 0, none⟩) n gc) nilV (natV x0) (natV x1) (natV x2) (.slice ea el ec))
            rw [HO.out]
            refine ⟨⟨_, _, _, rfl, ⟨⟨_, _, rfl, HST5.out.nst hns, ?_⟩, fun s hs => ?_, fun l hl => ?_⟩, (HR5.out.nst hns).at⟩, fun s hs => ?_, ?_, ?_, ?_⟩
            · rw [HDN.out]; exact Or.inl ⟨rfl, Or.inl rfl⟩
            · rw [HRI.out.secs s hs]; unfold maxLen; decide
            · rw [HDN.out] at hl; cases hl
            · exact Nat.le_trans (HES.out s hs) (by unfold maxLen; decide)
            · simp only; omega
            · simp only; omega
            · simp only; omega
end Go.Proofs.YtkplpodljmlanaaGreatDoor
