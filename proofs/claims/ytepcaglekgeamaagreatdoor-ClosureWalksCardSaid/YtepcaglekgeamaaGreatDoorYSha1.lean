/-
  The sum of bytes as a plain function: words of 32 bits as integers from 0 on. Conditions: none. It names nothing of the translation but its name.
  The digest's turned words by contracts. Conditions: words are of 32 bits.
  The digest's spread by its contract. Conditions: a block of 64 bytes.
-/
import Derived.Test.YtepcaglekgeamaaGreatDoorYOct1
import Derived.Laws.BitsAllLaws
import Derived.Laws.Closers25b
import Derived.Lib.Strings
import Derived.KernelRfl
import Derived.WalkKit
import Derived.WalkLawsBesides
import Derived.WalkSpells
import Derived.BigCall
import Derived.Lib.Hide
import Derived.Outline
import Derived.BigQuiet
import Derived.Deep.QuietTactic
import Derived.Test.YtepcaglekgeamaaGreatDoorChecked
import Derived.BigRegion
import Derived.Deep.OwnRows
import Derived.Laws.Rows
import Derived.Laws.CopyOwn
namespace Go.Proofs.YtepcaglekgeamaaGreatDoor

def U32 (x : Int) : Prop := 0 ≤ x ∧ x < 4294967296

theorem U32.mod (x : Int) : U32 (x % 4294967296) := ⟨by omega, by omega⟩

def rotr (x : Int) (n : Nat) : Int := x / 2 ^ n + x % 2 ^ n * 2 ^ (32 - n)

theorem rotr_nat (X n : Nat) : rotr (X : Int) n = ((X / 2 ^ n + X % 2 ^ n * 2 ^ (32 - n) : Nat) : Int) := by
  unfold rotr
  simp [Int.natCast_add, Int.natCast_ediv, Int.natCast_emod, Int.natCast_mul, Int.natCast_pow]

theorem pow_split (n : Nat) (h : n ≤ 32) : 2 ^ n * 2 ^ (32 - n) = 4294967296 := by
  rw [← Nat.pow_add, show n + (32 - n) = 32 by omega]

theorem div_small (X n : Nat) (h : X < 4294967296) (hn : n ≤ 32) : X / 2 ^ n < 2 ^ (32 - n) := by
  rw [Nat.div_lt_iff_lt_mul (Nat.pow_pos (by decide)), Nat.mul_comm, pow_split n hn]; exact h

theorem rotr_u32 (x : Int) (n : Nat) (h : U32 x) (hn : n ≤ 32) : U32 (rotr x n) := by
  obtain ⟨h0, h1⟩ := h
  obtain ⟨X, rfl⟩ := Int.eq_ofNat_of_zero_le h0
  have hX : X < 4294967296 := by omega
  rw [rotr_nat]
  refine ⟨Int.natCast_nonneg _, ?_⟩
  have a := div_small X n hX hn
  have b : X % 2 ^ n + 1 ≤ 2 ^ n := Nat.mod_lt _ (Nat.pow_pos (by decide))
  have c := Nat.mul_le_mul_right (2 ^ (32 - n)) b
  rw [pow_split n hn, Nat.add_mul, Nat.one_mul] at c
  omega

theorem or_rotr (x : Int) (n : Nat) (h : U32 x) (hn : n ≤ 32) : bits .or .u32 (x / 2 ^ n) (x * 2 ^ (32 - n) % 4294967296) = rotr x n := by
  obtain ⟨h0, h1⟩ := h
  obtain ⟨X, rfl⟩ := Int.eq_ofNat_of_zero_le h0
  have hX : X < 4294967296 := by omega
  rw [rotr_nat]
  have e1 : (X : Int) / 2 ^ n = ((X / 2 ^ n : Nat) : Int) := by simp [Int.natCast_ediv, Int.natCast_pow]
  have e2 : (X : Int) * 2 ^ (32 - n) % 4294967296 = ((X % 2 ^ n * 2 ^ (32 - n) : Nat) : Int) := by
    rw [← Nat.mul_mod_mul_right, pow_split n hn]
    simp [Int.natCast_emod, Int.natCast_mul, Int.natCast_pow]
  have a := div_small X n hX hn
  have b : X % 2 ^ n + 1 ≤ 2 ^ n := Nat.mod_lt _ (Nat.pow_pos (by decide))
  have c := Nat.mul_le_mul_right (2 ^ (32 - n)) b
  rw [pow_split n hn, Nat.add_mul, Nat.one_mul] at c
  rw [e1, e2, u32_or_nat _ _ (Nat.lt_of_le_of_lt (Nat.div_le_self _ _) hX) (by have : 0 < 2 ^ (32 - n) := Nat.pow_pos (by decide); omega)]
  congr 1
  rw [Nat.or_comm, ← Nat.shiftLeft_eq, ← Nat.shiftLeft_add_eq_or_of_lt a, Nat.shiftLeft_eq, Nat.add_comm]

def x32 (a b : Int) : Int := bits .xor .u32 a b

def tri (x : Int) (i j k : Nat) : Int := x32 (x32 (rotr x i) (rotr x j)) (rotr x k)

def sig (x : Int) (i j : Nat) (d : Int) : Int := x32 (x32 (rotr x i) (rotr x j)) (x / d)

def chW (e f g : Int) : Int := x32 (bits .and .u32 e f) (bits .and .u32 (x32 4294967295 e) g)

def majW (a b c : Int) : Int := x32 (x32 (bits .and .u32 a b) (bits .and .u32 a c)) (bits .and .u32 b c)

structure St where
  a : Int
  b : Int
  c : Int
  d : Int
  e : Int
  f : Int
  g : Int
  h : Int

def St.toL (s : St) : List Int := [s.a, s.b, s.c, s.d, s.e, s.f, s.g, s.h]

structure St.Ok (s : St) : Prop where
  a : U32 s.a
  b : U32 s.b
  c : U32 s.c
  d : U32 s.d
  e : U32 s.e
  f : U32 s.f
  g : U32 s.g
  h : U32 s.h

def St.t1 (s : St) (k w : Int) : Int := (s.h + tri s.e 6 11 25 + chW s.e s.f s.g + k + w) % 4294967296

def St.t2 (s : St) : Int := (tri s.a 2 13 22 + majW s.a s.b s.c) % 4294967296

def St.step (s : St) (k w : Int) : St := ⟨(s.t1 k w + s.t2) % 4294967296, s.a, s.b, s.c, (s.d + s.t1 k w) % 4294967296, s.e, s.f, s.g⟩

theorem St.Ok.step {s : St} (h : s.Ok) (k w : Int) : (s.step k w).Ok := ⟨U32.mod _, h.a, h.b, h.c, U32.mod _, h.e, h.f, h.g⟩

def St.add (s t : St) : St := ⟨(s.a + t.a) % 4294967296, (s.b + t.b) % 4294967296, (s.c + t.c) % 4294967296, (s.d + t.d) % 4294967296, (s.e + t.e) % 4294967296, (s.f + t.f) % 4294967296, (s.g + t.g) % 4294967296, (s.h + t.h) % 4294967296⟩

theorem St.Ok.add (s t : St) : (s.add t).Ok := ⟨U32.mod _, U32.mod _, U32.mod _, U32.mod _, U32.mod _, U32.mod _, U32.mod _, U32.mod _⟩

theorem St.add_comm (s t : St) : s.add t = t.add s := by simp only [St.add, Int.add_comm]

def keysL : List Int := [0x428a2f98, 0x71374491, 0xb5c0fbcf, 0xe9b5dba5, 0x3956c25b, 0x59f111f1, 0x923f82a4, 0xab1c5ed5,
  0xd807aa98, 0x12835b01, 0x243185be, 0x550c7dc3, 0x72be5d74, 0x80deb1fe, 0x9bdc06a7, 0xc19bf174,
  0xe49b69c1, 0xefbe4786, 0x0fc19dc6, 0x240ca1cc, 0x2de92c6f, 0x4a7484aa, 0x5cb0a9dc, 0x76f988da,
  0x983e5152, 0xa831c66d, 0xb00327c8, 0xbf597fc7, 0xc6e00bf3, 0xd5a79147, 0x06ca6351, 0x14292967,
  0x27b70a85, 0x2e1b2138, 0x4d2c6dfc, 0x53380d13, 0x650a7354, 0x766a0abb, 0x81c2c92e, 0x92722c85,
  0xa2bfe8a1, 0xa81a664b, 0xc24b8b70, 0xc76c51a3, 0xd192e819, 0xd6990624, 0xf40e3585, 0x106aa070,
  0x19a4c116, 0x1e376c08, 0x2748774c, 0x34b0bcb5, 0x391c0cb3, 0x4ed8aa4a, 0x5b9cca4f, 0x682e6ff3,
  0x748f82ee, 0x78a5636f, 0x84c87814, 0x8cc70208, 0x90befffa, 0xa4506ceb, 0xbef9a3f7, 0xc67178f2]

def begins : St := ⟨0x6a09e667, 0xbb67ae85, 0x3c6ef372, 0xa54ff53a, 0x510e527f, 0x9b05688c, 0x1f83d9ab, 0x5be0cd19⟩

theorem begins_ok : begins.Ok := ⟨⟨by decide, by decide⟩, ⟨by decide, by decide⟩, ⟨by decide, by decide⟩, ⟨by decide, by decide⟩, ⟨by decide, by decide⟩, ⟨by decide, by decide⟩, ⟨by decide, by decide⟩, ⟨by decide, by decide⟩⟩

theorem keysL_u32 (t : Nat) : U32 (keysL.getD t 0) := by
  by_cases h : t < 64
  · have : ∀ m : Fin 64, 0 ≤ keysL.getD m.1 0 ∧ keysL.getD m.1 0 < 4294967296 := by decide
    exact this ⟨t, h⟩
  · rw [List.getD_eq_getElem?_getD, List.getElem?_eq_none (by show 64 ≤ t; omega)]; exact ⟨by decide, by decide⟩

def word4 (l : List UInt8) (t : Nat) : Int := (((l.getD (t * 4) 0).toNat * 16777216 + (l.getD (t * 4 + 1) 0).toNat * 65536 + (l.getD (t * 4 + 2) 0).toNat * 256 + (l.getD (t * 4 + 3) 0).toNat : Nat) : Int)

theorem word4_u32 (l : List UInt8) (t : Nat) : U32 (word4 l t) := by
  have a := (l.getD (t * 4) 0).toNat_lt
  have b := (l.getD (t * 4 + 1) 0).toNat_lt
  have c := (l.getD (t * 4 + 2) 0).toNat_lt
  have d := (l.getD (t * 4 + 3) 0).toNat_lt
  unfold word4 U32
  omega

def words (l : List UInt8) (n : Nat) : List Int := (List.range n).map (word4 l)

theorem words_succ (l : List UInt8) (n : Nat) : words l (n + 1) = words l n ++ [word4 l n] := by simp [words, List.range_succ]

theorem words_length (l : List UInt8) (n : Nat) : (words l n).length = n := by simp [words]

def nextW (x y p q : Int) : Int := (sig y 17 19 1024 + p + sig x 7 18 8 + q) % 4294967296

def next (l : List Int) (t : Nat) : Int := nextW (l.getD (t - 15) 0) (l.getD (t - 2) 0) (l.getD (t - 7) 0) (l.getD (t - 16) 0)

def sched (l : List UInt8) : Nat → List Int
  | 0 => words l 16
  | k + 1 => sched l k ++ [next (sched l k) (16 + k)]

theorem sched_succ (l : List UInt8) (k : Nat) : sched l (k + 1) = sched l k ++ [next (sched l k) (16 + k)] := rfl

theorem sched_length (l : List UInt8) (k : Nat) : (sched l k).length = 16 + k := by
  induction k with
  | zero => simp [sched, words_length]
  | succ k ih => simp [sched_succ, ih]; omega

theorem getD_u32 {l : List Int} (h : ∀ x ∈ l, U32 x) (i : Nat) : U32 (l.getD i 0) := by
  rw [List.getD_eq_getElem?_getD]
  cases hx : l[i]? with
  | none => exact ⟨by decide, by decide⟩
  | some x => exact h x (List.mem_of_getElem? hx)

theorem words_u32 (l : List UInt8) (n : Nat) : ∀ x ∈ words l n, U32 x := by
  intro x hx
  simp only [words, List.mem_map] at hx
  obtain ⟨i, _, rfl⟩ := hx
  exact word4_u32 l i

theorem sched_u32 (l : List UInt8) (k : Nat) : ∀ x ∈ sched l k, U32 x := by
  induction k with
  | zero => exact words_u32 l 16
  | succ k ih =>
    intro x hx
    rw [sched_succ, List.mem_append] at hx
    rcases hx with hx | hx
    · exact ih x hx
    · simp at hx; subst hx; exact U32.mod _

theorem getD_snoc (l : List Int) (v : Int) (i : Nat) : (l ++ [v]).getD i 0 = if i = l.length then v else l.getD i 0 := by
  rw [List.getD_eq_getElem?_getD, List.getD_eq_getElem?_getD]
  by_cases h : i = l.length
  · subst h; simp
  · rw [if_neg h]
    by_cases h2 : i < l.length
    · rw [List.getElem?_append_left h2]
    · rw [List.getElem?_eq_none (by simp; omega), List.getElem?_eq_none (by omega)]

def rounds (s : St) (W : List Int) : Nat → St
  | 0 => s
  | k + 1 => (rounds s W k).step (keysL.getD k 0) (W.getD k 0)

theorem rounds_succ' (s : St) (W : List Int) (k : Nat) : rounds s W (k + 1) = (rounds s W k).step (keysL.getD k 0) (W.getD k 0) := rfl

theorem rounds_ok {s : St} (h : s.Ok) (W : List Int) (k : Nat) : (rounds s W k).Ok := by
  induction k with
  | zero => exact h
  | succ k ih => exact ih.step _ _

def blockS (s : St) (l : List UInt8) : St := s.add (rounds s (sched l 48) 64)

theorem blockS_ok (s : St) (l : List UInt8) : (blockS s l).Ok := St.Ok.add _ _

def chain (l : List UInt8) : Nat → St
  | 0 => begins
  | k + 1 => blockS (chain l k) ((l.drop (64 * k)).take 64)

theorem chain_succ (l : List UInt8) (k : Nat) : chain l (k + 1) = blockS (chain l k) ((l.drop (64 * k)).take 64) := rfl

theorem chain_ok (l : List UInt8) (k : Nat) : (chain l k).Ok := by
  cases k with
  | zero => exact begins_ok
  | succ k => exact blockS_ok _ _

theorem chain_append (l m : List UInt8) (k : Nat) (h : 64 * k ≤ l.length) : chain (l ++ m) k = chain l k := by
  induction k with
  | zero => rfl
  | succ k ih =>
    rw [chain_succ, chain_succ, ih (by omega), List.drop_append_of_le_length (by omega), List.take_append_of_le_length (by rw [List.length_drop]; omega)]

def wideR (n k : Nat) : List UInt8 := (wideL n k).reverse

theorem wideR_length (n k : Nat) : (wideR n k).length = k := by simp [wideR, wideL_length]

def padN (n : Nat) : Nat := (119 - n % 64) % 64

def padL (l : List UInt8) : List UInt8 := (l ++ 128 :: List.replicate (padN l.length) 0) ++ wideR (8 * l.length) 8

theorem padL_length (l : List UInt8) : (padL l).length = l.length + 1 + padN l.length + 8 := by
  simp only [padL, List.length_append, List.length_cons, List.length_replicate, wideR_length]; omega

theorem padL_whole (l : List UInt8) : 64 * ((padL l).length / 64) = (padL l).length := by
  rw [padL_length]; unfold padN; omega

def outS (s : St) : List UInt8 := s.toL.flatMap fun x => wideR x.toNat 4

def shaL (l : List UInt8) : List UInt8 := outS (chain (padL l) ((padL l).length / 64))

theorem outS_length (s : St) : (outS s).length = 32 := by simp [outS, St.toL, wideR_length]

theorem shaL_length (l : List UInt8) : (shaL l).length = 32 := outS_length _
end Go.Proofs.YtepcaglekgeamaaGreatDoor
namespace Go.Proofs.YtepcaglekgeamaaGreatDoor
open Go.RowKit

theorem turned_any (x : Int) (n : Nat) (w : World) (h : U32 x) (n1 : n ≤ 32) :
    Calls Tryz.prog 116 #[.int .u32 x, .int .u64 n] w fun e w' => e = .returned (.int .u32 (rotr x n)) ∧ w = w' := by
  have HO := Lib.hid (or_rotr x n h n1)
  obtain ⟨h0, h1⟩ := h
  go_enter Tryz.func116, Tryz.ntmps116
  go_wp2_with fail
  go_ret
  exact ⟨by rw [HO.out]; rfl, rfl⟩

theorem turns_any (x : Int) (i j k : Nat) (w : World) (h : U32 x) (n1 : i ≤ 32) (n2 : j ≤ 32) (n3 : k ≤ 32) :
    Calls Tryz.prog 115 #[.int .u32 x, .int .u64 i, .int .u64 j, .int .u64 k] w fun e w' => e = .returned (.int .u32 (tri x i j k)) ∧ w = w' := by
  have H := Lib.hid h
  obtain ⟨h0, h1⟩ := h
  go_enter Tryz.func115, Tryz.ntmps115
  go_wp2_with fail
  refine (turned_any x i w H.out n1).mono ?_
  rintro e w1 ⟨rfl, rfl⟩
  go_wp2_with fail
  refine (turned_any x j w H.out n2).mono ?_
  rintro e w1 ⟨rfl, rfl⟩
  go_wp2_with fail
  refine (turned_any x k w H.out n3).mono ?_
  rintro e w1 ⟨rfl, rfl⟩
  go_wp2_with fail
  go_ret
  exact ⟨rfl, rfl⟩
end Go.Proofs.YtepcaglekgeamaaGreatDoor
namespace Go.Proofs.YtepcaglekgeamaaGreatDoor
open Go.RowKit

def byteAt (l : List UInt8) (i : Nat) : Value := .int .u8 (l.getD i 0).toNat

def wordAt (l : List Int) (i : Nat) : Value := .int .u32 (l.getD i 0)

def SpreadRows (w : World) (l : List UInt8) (ws : List Int) (wr : World) : Prop :=
  wr.rowIs w.heap.size 114 64 (byteAt l) ∧ wr.rowIs (w.heap.size + 1) 131 64 (wordAt []) ∧ wr.rowIs (w.heap.size + 1 + 1) 131 64 (wordAt ws) ∧ Below w.heap.size w wr

def zeros64 : Array Value := #[.int .u32 0, .int .u32 0, .int .u32 0, .int .u32 0, .int .u32 0, .int .u32 0, .int .u32 0, .int .u32 0, .int .u32 0, .int .u32 0, .int .u32 0, .int .u32 0, .int .u32 0, .int .u32 0, .int .u32 0, .int .u32 0, .int .u32 0, .int .u32 0, .int .u32 0, .int .u32 0, .int .u32 0, .int .u32 0, .int .u32 0, .int .u32 0, .int .u32 0, .int .u32 0, .int .u32 0, .int .u32 0, .int .u32 0, .int .u32 0, .int .u32 0, .int .u32 0, .int .u32 0, .int .u32 0, .int .u32 0, .int .u32 0, .int .u32 0, .int .u32 0, .int .u32 0, .int .u32 0, .int .u32 0, .int .u32 0, .int .u32 0, .int .u32 0, .int .u32 0, .int .u32 0, .int .u32 0, .int .u32 0, .int .u32 0, .int .u32 0, .int .u32 0, .int .u32 0, .int .u32 0, .int .u32 0, .int .u32 0, .int .u32 0, .int .u32 0, .int .u32 0, .int .u32 0, .int .u32 0, .int .u32 0, .int .u32 0, .int .u32 0, .int .u32 0]

theorem zeros64_at : ∀ i : Fin 64, zeros64[i.1]? = some (.int .u32 0) := fun i => by
  have : ∀ i : Fin 64, zeros64.toList[i.1]?.isSome = true := by decide
  have h2 : ∀ x ∈ zeros64.toList, x = .int .u32 0 := by simp [zeros64]
  rw [← Array.getElem?_toList]
  have h3 := this i
  rw [Option.isSome_iff_exists] at h3
  obtain ⟨x, hx⟩ := h3
  rw [hx, h2 x (List.mem_of_getElem? hx)]

theorem SpreadRows.start (w : World) (l : List UInt8) (hl : l.length = 64) :
    SpreadRows w l [] (((w.alloc (.cells ((l.map fun b => Value.int .u8 b.toNat).toArray) 114)).alloc (.cells zeros64 131)).alloc (.cells zeros64 131)) := by
  have h1 := World.rowIs_alloc w ((l.map fun b => Value.int .u8 b.toNat).toArray) 114 (byteAt l) (fun i hi => by
    simp only [List.size_toArray, List.length_map] at hi
    simp [byteAt, hi])
  have hz : ∀ i, i < zeros64.size → zeros64[i]? = some (wordAt [] i) := fun i hi => zeros64_at ⟨i, hi⟩
  have e : ((l.map fun b => Value.int .u8 b.toNat).toArray).size = 64 := by simp [hl]
  rw [e] at h1
  have h2 := World.rowIs_alloc (w.alloc (.cells ((l.map fun b => Value.int .u8 b.toNat).toArray) 114)) zeros64 131 (wordAt []) hz
  have h3 := World.rowIs_alloc ((w.alloc (.cells ((l.map fun b => Value.int .u8 b.toNat).toArray) 114)).alloc (.cells zeros64 131)) zeros64 131 (wordAt []) hz
  simp only [World.size_alloc] at h2 h3
  exact ⟨(h1.alloc _).alloc _, h2.alloc _, h3, (((Below.refl _ _).alloc (Nat.le_refl _) _).alloc (by simp) _).alloc (by simp; omega) _⟩

theorem SpreadRows.drewN {w wr : World} {l : List UInt8} {ws : List Int} (h : SpreadRows w l ws wr) (n : Nat) : SpreadRows w l ws (wr.drewN n) := ⟨h.1, h.2.1, h.2.2.1, h.2.2.2.trans ⟨rfl, rfl, rfl, Nat.le_refl _, fun _ _ => rfl⟩⟩

theorem SpreadRows.set {w wr : World} {l : List UInt8} {ws : List Int} (h : SpreadRows w l ws wr) (t : Nat) (ht : ws.length = t) (v : Int) :
    SpreadRows w l (ws ++ [v]) (wr.setCell ⟨w.heap.size + 1 + 1, t, none⟩ (.int .u32 v)) := by
  obtain ⟨h1, h2, h3, hb⟩ := h
  refine ⟨(h1.setOther (show w.heap.size ≠ w.heap.size + 1 + 1 by omega) _), (h2.setOther (show w.heap.size + 1 ≠ w.heap.size + 1 + 1 by omega) _), ((h3.set t _).congr fun i _ => ?_), (hb.setCell (show w.heap.size ≤ w.heap.size + 1 + 1 by omega) _)⟩
  unfold wordAt
  rw [getD_snoc, ht]
  split <;> rfl

theorem rowIs_cells {wr : World} {b n : Nat} {t : TypeId} {f : Nat → Value} (h : wr.rowIs b t n f) (ws : List Value) (hl : ws.length = n) (hf : ∀ i, i < n → ws[i]? = some (f i)) : wr.heap[b]? = some (.cells ws.toArray t (0, 0)) := by
  obtain ⟨c, hb, hn, hc⟩ := h
  rw [hb]
  congr 2
  apply Array.ext_getElem?
  intro i
  by_cases hi : i < n
  · rw [hc i hi]; simp [hf i hi]
  · rw [Array.getElem?_eq_none (by omega), Array.getElem?_eq_none (by simp; omega)]

theorem rowIs_words {wr : World} {b n : Nat} {t : TypeId} {f : Nat → Value} (h : wr.rowIs b t n f) (ws : List Int) (hl : ws.length = n) (hf : ∀ i, i < n → f i = wordAt ws i) : wr.heap[b]? = some (.cells ((ws.map (Value.int .u32)).toArray) t (0, 0)) := by
  refine rowIs_cells h _ (by simpa using hl) (fun i hi => ?_)
  rw [hf i hi]
  have : i < ws.length := by omega
  simp [wordAt, this]

theorem info64 {C : Array Value} (h : C.size = 64) : (Tryz.prog.info? 131).map (·.size) = some C.size := by rw [h]; kernel_rfl

theorem or_add (k y i m : Nat) (hm : 2 ^ i = m) (hy : y < m) (h : k * m + y < 4294967296) : bits .or .u32 ((k * m : Nat) : Int) (y : Int) = ((k * m + y : Nat) : Int) := by
  subst hm
  rw [u32_or_nat _ _ (by omega) (by omega)]
  congr 1
  rw [← Nat.shiftLeft_eq, ← Nat.shiftLeft_add_eq_or_of_lt hy]

theorem or4 (a b c d : Nat) (ha : a < 256) (hb : b < 256) (hc : c < 256) (hd : d < 256) :
    bits .or .u32 (bits .or .u32 (bits .or .u32 ((a : Int) * 16777216) ((b : Int) * 65536)) ((c : Int) * 256)) (d : Int) = ((a * 16777216 + b * 65536 + c * 256 + d : Nat) : Int) := by
  have f1 : ((a : Int) * 16777216) = ((a * 16777216 : Nat) : Int) := by omega
  have f2 : ((b : Int) * 65536) = ((b * 65536 : Nat) : Int) := by omega
  have f3 : ((c : Int) * 256) = ((c * 256 : Nat) : Int) := by omega
  have f4 : a * 16777216 + b * 65536 = (a * 256 + b) * 65536 := by rw [Nat.add_mul]; omega
  have f5 : (a * 256 + b) * 65536 + c * 256 = ((a * 256 + b) * 256 + c) * 256 := by rw [Nat.add_mul _ c, Nat.mul_assoc _ 256 256]
  have e1 := or_add a (b * 65536) 24 16777216 (by simp) (by omega) (by omega)
  have e2 := or_add (a * 256 + b) (c * 256) 16 65536 (by simp) (by omega) (by omega)
  have e3 := or_add ((a * 256 + b) * 256 + c) d 8 256 (by simp) (by omega) (by omega)
  rw [f1, f2, f3, e1, f4, e2, f5, e3]

set_option maxRecDepth 100000 in
set_option maxHeartbeats 2000000 in
theorem spread_any (l : List UInt8) (w : World) (hl : l.length = 64) :
    Calls Tryz.prog 93 #[.agg ((l.map fun b => Value.int .u8 b.toNat).toArray)] w fun e w' => e = .returned (.agg (((sched l 48).map (Value.int .u32)).toArray)) ∧ Below w.heap.size w w' := by
  have HS := Lib.hid (SpreadRows.start w l hl)
  obtain ⟨cs, hcs⟩ : ∃ cs : Array Value, (l.map fun b => Value.int .u8 b.toNat).toArray = cs := ⟨_, rfl⟩
  have HL := Lib.hid hl
  rw [hcs] at HS ⊢
  obtain ⟨C, hC⟩ : ∃ C : Array Value, (((sched l 48).map (Value.int .u32)).toArray) = C := ⟨_, rfl⟩
  rw [hC]
  have HC := Lib.hid hC
  clear hcs hl hC
  go_enter Tryz.func93, Tryz.ntmps93
  go_wp2_with fail
  go_loopw [11] (fun i wr => ∃ t : Nat, t ≤ 16 ∧ i = .int .i64 t ∧ SpreadRows w l (words l t) wr) (fun i _ => 16 - (intOf i).toNat)
  case atStart => exact ⟨0, Nat.zero_le _, rfl, HS.out⟩
  case round =>
    obtain ⟨t, ht, rfl, hr1, hr2, hr3, hb⟩ := hrel
    by_cases hlt : t < 16
    · have c0 := hr1.cell (i := t * 4) (by omega)
      have c1 := hr1.cell (i := t * 4 + 1) (by omega)
      have c2 := hr1.cell (i := t * 4 + 2) (by omega)
      have c3 := hr1.cell (i := t * 4 + 3) (by omega)
      have d0 := hr3.cell (i := t) (by omega)
      have f0 := hr3.frozen t
      have H1 := Lib.hid hr1
      have H2 := Lib.hid hr2
      have H3 := Lib.hid hr3
      have HB := Lib.hid hb
      unfold byteAt at c0 c1 c2 c3
      clear hr1 hr2 hr3 hb HS
      obtain ⟨b0, hb0⟩ : ∃ b0, l.getD (t * 4) 0 = b0 := ⟨_, rfl⟩
      obtain ⟨b1, hb1⟩ : ∃ b1, l.getD (t * 4 + 1) 0 = b1 := ⟨_, rfl⟩
      obtain ⟨b2, hb2⟩ : ∃ b2, l.getD (t * 4 + 2) 0 = b2 := ⟨_, rfl⟩
      obtain ⟨b3, hb3⟩ : ∃ b3, l.getD (t * 4 + 3) 0 = b3 := ⟨_, rfl⟩
      rw [hb0] at c0
      rw [hb1] at c1
      rw [hb2] at c2
      rw [hb3] at c3
      have E0 := Lib.hid hb0
      have E1 := Lib.hid hb1
      have E2 := Lib.hid hb2
      have E3 := Lib.hid hb3
      clear hb0 hb1 hb2 hb3
      have l0 := b0.toNat_lt
      have l1 := b1.toNat_lt
      have l2 := b2.toNat_lt
      have l3 := b3.toNat_lt
      go_wp2_with fail
      go_region
      go_wp2_with fail
      go_roundw
      case rel =>
        refine ⟨t + 1, by omega, by go_num, ?_⟩
        rw [or4 _ _ _ _ l0 l1 l2 l3, words_succ, show word4 l t = ((b0.toNat * 16777216 + b1.toNat * 65536 + b2.toNat * 256 + b3.toNat : Nat) : Int) by rw [← E0.out, ← E1.out, ← E2.out, ← E3.out]; rfl]
        exact (SpreadRows.set ⟨H1.out, H2.out, H3.out, HB.out⟩ t (words_length l t) _).drewN 1
      case measure => simp [intOf]; omega
    · have t16 : 16 ≤ t := by omega
      have HR := Lib.hid (show SpreadRows w l (sched l 0) wr by
        obtain rfl : t = 16 := by omega
        exact ⟨hr1, hr2, hr3, hb⟩)
      clear hr1 hr2 hr3 hb HS
      go_wp2_with fail
      go_loopw [6] (fun i wr => ∃ n : Nat, 16 ≤ n ∧ n ≤ 64 ∧ i = .int .i64 n ∧ SpreadRows w l (sched l (n - 16)) wr) (fun i _ => 64 - (intOf i).toNat)
      case atStart => exact ⟨16, Nat.le_refl _, by decide, rfl, HR.out⟩
      case round =>
        clear HR
        obtain ⟨n, hn1, hn2, rfl, hr1, hr2, hr3, hb⟩ := hrel
        by_cases hlt : n < 64
        · have c0 := hr3.cell (i := n - 15) (by omega)
          have c1 := hr3.cell (i := n - 2) (by omega)
          have c2 := hr3.cell (i := n - 7) (by omega)
          have c3 := hr3.cell (i := n - 16) (by omega)
          have d0 := hr3.cell (i := n) (by omega)
          have f0 := hr3.frozen n
          have U := sched_u32 l (n - 16)
          have u0 := Lib.hid (getD_u32 U (n - 15))
          have u1 := Lib.hid (getD_u32 U (n - 2))
          have u2 := Lib.hid (getD_u32 U (n - 7))
          have u3 := Lib.hid (getD_u32 U (n - 16))
          have HR := Lib.hid (show SpreadRows w l (sched l (n - 16)) wr from ⟨hr1, hr2, hr3, hb⟩)
          have HN := Lib.hid (show nextW ((sched l (n - 16)).getD (n - 15) 0) ((sched l (n - 16)).getD (n - 2) 0) ((sched l (n - 16)).getD (n - 7) 0) ((sched l (n - 16)).getD (n - 16) 0) = next (sched l (n - 16)) n from rfl)
          unfold wordAt at c0 c1 c2 c3 d0
          clear hr1 hr2 hr3 hb U
          generalize (sched l (n - 16)).getD (n - 15) 0 = x0 at c0 u0 HN
          generalize (sched l (n - 16)).getD (n - 2) 0 = x1 at c1 u1 HN
          generalize (sched l (n - 16)).getD (n - 7) 0 = x2 at c2 u2 HN
          generalize (sched l (n - 16)).getD (n - 16) 0 = x3 at c3 u3 HN
          obtain ⟨m0, m1⟩ := u0.out
          obtain ⟨m2, m3⟩ := u1.out
          obtain ⟨m4, m5⟩ := u2.out
          obtain ⟨m6, m7⟩ := u3.out
          go_wp2_with fail
          go_quiet (fail)
          go_wp2_with fail
          refine (turned_any x0 7 _ u0.out (by decide)).mono ?_
          rintro e w2 ⟨rfl, rfl⟩
          go_wp2_with fail
          refine (turned_any x0 18 _ u0.out (by decide)).mono ?_
          rintro e w2 ⟨rfl, rfl⟩
          go_wp2_with fail
          refine (turned_any x1 17 _ u1.out (by decide)).mono ?_
          rintro e w2 ⟨rfl, rfl⟩
          go_wp2_with fail
          refine (turned_any x1 19 _ u1.out (by decide)).mono ?_
          rintro e w2 ⟨rfl, rfl⟩
          go_wp2_with fail
          go_region
          go_wp2_with fail
          go_roundw
          case rel =>
            refine ⟨n + 1, by omega, by omega, by go_num, ?_⟩
            rw [show n + 1 - 16 = n - 16 + 1 by omega, sched_succ, show 16 + (n - 16) = n by omega, ← HN.out]
            exact SpreadRows.set (HR.out.drewN (nq + 1)) n (by rw [sched_length]; omega) _
          case measure => simp [intOf]; omega
        · have n64 : 64 ≤ n := by omega
          have e48 := Lib.hid (show n - 16 = 48 by omega)
          rw [e48.out] at hr3
          have hc3 := rowIs_words hr3 (sched l 48) (by rw [sched_length]) (fun _ _ => rfl)
          have hsz : (((sched l 48).map (Value.int .u32)).toArray).size = 64 := by simp [sched_length]
          have h1 : C.all (·.oneCell') = true := by rw [← HC.out]; simp [Value.oneCell']
          rw [HC.out] at hc3 hsz
          obtain ⟨D, hD, hDs, -⟩ := hr2
          have HC3 := Lib.hid hc3
          have HC2 := Lib.hid hD
          have HSZ := Lib.hid hsz
          have HDS := Lib.hid (hDs.trans hsz.symm)
          have HB := Lib.hid hb
          have H1 := Lib.hid h1
          clear hn1 hn2 hr1 hr3 hb hc3 hsz h1 hD hDs
          go_wp2_with (first | (refine wpList_load_row rfl 131 (.tmp 3) rfl (w.heap.size + 1 + 1) rfl 131 C (0, 0) _ HC3.out Tryz.underlying131 rfl (info64 HSZ.out) ?_) | (refine wpList_store_row rfl 131 (.tmp 2) (.tmp 87) rfl (w.heap.size + 1) C rfl rfl 131 D HC2.out (info64 HSZ.out) HDS.out H1.out ?_))
          have hfin : (wr.setRow (w.heap.size + 1) C).heap[w.heap.size + 1]? = some (.cells C 131 (0, 0)) := setRow_heap wr _ _ _ _ _ HC2.out
          exact bodyPost_ret (results_cell_row (p := 2) rfl _ _ (w.heap.size + 1) 131 C (0, 0) _ rfl hfin Tryz.underlying131 rfl (info64 HSZ.out)) rfl ⟨rfl, HB.out.trans (below_setRow (Below.refl _ _) (show w.heap.size ≤ w.heap.size + 1 by omega) _)⟩
end Go.Proofs.YtepcaglekgeamaaGreatDoor
