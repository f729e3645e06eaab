/-
  The document's own turn and step, by contracts. Conditions: words are of 32 bits.
  The document's own step, by a contract. Conditions: eight words of 32 bits lie in the row.
  The document's own block, by a contract. Conditions: eight words and the 64 keys lie in their rows; the text has 64 bytes.
  The document's own rows of words, by contracts. Conditions: none.
  A row of bytes that '[]byte(s)' laid and appends go on with: its word and the law of one more byte. Conditions: none.
  The document's own sum, by a contract. Conditions: fewer than 2^40 bytes.
-/
import Derived.Test.YtepcaglekgeamaaGreatDoorYSha1
import Derived.BigRegion
import Derived.Deep.QuietTactic
import Derived.Test.YtepcaglekgeamaaGreatDoorYOct2
import Derived.Deep.RegionLaw
import Derived.Deep.AppendLies
import Derived.ArgAppend
import Derived.Laws.IdiomStrings
import Derived.Lib.Strings
import Derived.Test.YtepcaglekgeamaaGreatDoorYDig1
namespace Go.Proofs.YtepcaglekgeamaaGreatDoor
open Go.RowKit

theorem pow_le31 (k : Nat) (h : k ≤ 30) : 2 ^ k ≤ 1073741824 := by
  have : 2 ^ k ≤ 2 ^ 30 := Nat.pow_le_pow_right (by decide) h
  exact this

theorem turn_val (x : Int) (n P Q : Nat) (h : U32 (rotr x n)) (h0 : 0 ≤ x) (hP : P = 2 ^ n) (hQ : Q = 2 ^ (32 - n)) :
    (x / (P : Int) + x % (P : Int) * (Q : Int) % 4294967296) % 4294967296 = rotr x n := by
  obtain ⟨X, rfl⟩ := Int.eq_ofNat_of_zero_le h0
  rw [rotr_nat] at h ⊢
  subst hP hQ
  rw [← Int.natCast_ediv, ← Int.natCast_emod, ← Int.natCast_mul]
  generalize X / 2 ^ n = A at h ⊢
  generalize X % 2 ^ n * 2 ^ (32 - n) = B at h ⊢
  obtain ⟨_, h⟩ := h
  omega

set_option maxRecDepth 100000 in
set_option maxHeartbeats 1000000 in
theorem turn_any (x : Int) (n : Nat) (w : World) (h : U32 x) (n1 : 2 ≤ n) (n2 : n ≤ 30) :
    Calls Tryz.prog 50 #[.int .u32 x, .int .i64 n] w fun e w' => e = .returned (.int .u32 (rotr x n)) ∧ Below w.heap.size w w' := by
  have HU := Lib.hid (rotr_u32 x n h (by omega))
  obtain ⟨h0, h1⟩ := h
  go_enter Tryz.func50, Tryz.ntmps50
  go_wp2_with fail
  go_loop [5, 6] (fun p i => ∃ k : Nat, k ≤ n ∧ i = .int .i64 k ∧ p = .int .u32 ((2 ^ k : Nat) : Int)) (fun _ i => n - (intOf i).toNat)
  case atStart => exact ⟨0, Nat.zero_le _, rfl, rfl⟩
  case round =>
    obtain ⟨k, hk, rfl, rfl⟩ := hrel
    by_cases hlt : k < n
    · have hp := pow_le31 k (by omega)
      have hs := Lib.hid (Nat.pow_succ 2 k)
      generalize 2 ^ k = P at hp hs
      go_wp2_with fail
      go_round
      case rel => exact ⟨k + 1, by omega, by go_num, by rw [hs.out]; congr 1; omega⟩
      case measure => simp [intOf]; omega
    · have hkn := Lib.hid (show k = n by omega)
      have hge : n ≤ k := by omega
      have hp := pow_le31 k (by omega)
      have hP := Lib.hid (show 2 ^ k = 2 ^ n by rw [hkn.out])
      have hp0 : 0 < 2 ^ k := Nat.pow_pos (by decide)
      generalize 2 ^ k = P at hp hP hp0
      go_wp2_with fail
      go_loop [7, 8] (fun q i => ∃ j : Nat, n ≤ j ∧ j ≤ 32 ∧ i = .int .i64 j ∧ q = .int .u32 ((2 ^ (j - n) : Nat) : Int)) (fun _ i => 32 - (intOf i).toNat)
      case atStart => exact ⟨n, Nat.le_refl _, by omega, rfl, by rw [Nat.sub_self]; rfl⟩
      case round =>
        obtain ⟨j, hj1, hj2, rfl, rfl⟩ := hrel
        by_cases hlt2 : j < 32
        · have hq := pow_le31 (j - n) (by omega)
          have hs := Lib.hid (show 2 ^ (j + 1 - n) = 2 ^ (j - n) * 2 by rw [show j + 1 - n = (j - n) + 1 by omega, Nat.pow_succ])
          generalize 2 ^ (j - n) = Q at hq hs
          go_wp2_with fail
          go_round
          case rel => exact ⟨j + 1, by omega, by omega, by go_num, by rw [hs.out]; congr 1; omega⟩
          case measure => simp [intOf]; omega
        · have hj32 : 32 ≤ j := by omega
          have hQ := Lib.hid (show 2 ^ (j - n) = 2 ^ (32 - n) by rw [show j = 32 by omega])
          have hq := pow_le31 (j - n) (by omega)
          generalize 2 ^ (j - n) = Q at hq hQ
          go_wp2_with fail
          go_quiet (fail)
          go_wp2_with fail
          go_ret
          exact ⟨by rw [turn_val x n P Q HU.out (by omega) hP.out hQ.out]; rfl, ⟨rfl, rfl, rfl, Nat.le_refl _, fun _ _ => rfl⟩⟩
end Go.Proofs.YtepcaglekgeamaaGreatDoor
namespace Go.Proofs.YtepcaglekgeamaaGreatDoor
open Go.RowKit

def RowU (w : World) (g : Nat) (l : List Int) : Prop := g < w.heap.size ∧ ∀ i, i < l.length → w.cell? ⟨g, i, none⟩ = some (.int .u32 (l.getD i 0))

theorem RowU.keep {w w' : World} {g n : Nat} {l : List Int} (h : RowU w g l) (hn : g < n) (hb : Below n w w') : RowU w' g l :=
  ⟨Nat.lt_of_lt_of_le h.1 hb.size, fun i hi => by
    have := hb.block g hn
    rw [← h.2 i hi]
    unfold World.cell?
    simp only [this]⟩

theorem RowU.alloc (w : World) (l : List Int) (t : TypeId) (cs : Array Value) (hc : cs = (l.map (Value.int .u32)).toArray) : RowU (w.alloc (.cells cs t)) w.heap.size l := by
  subst hc
  refine ⟨by simp, fun i hi => ?_⟩
  rw [World.cell?_alloc_at _ _ _ _ rfl]
  simp [hi]

theorem xor_all (x : Nat) (h : x < 4294967296) : 4294967295 ^^^ x = 4294967295 - x := by
  have := congrArg BitVec.toNat (BitVec.allOnes_xor (x := BitVec.ofNat 32 x))
  simp only [BitVec.toNat_xor, BitVec.toNat_allOnes, BitVec.toNat_not, BitVec.toNat_ofNat] at this
  rw [Nat.mod_eq_of_lt (show x < 2 ^ 32 from h)] at this
  exact this

theorem x32_all (e : Int) (h : U32 e) : x32 4294967295 e = 4294967295 - e := by
  obtain ⟨h0, h1⟩ := h
  obtain ⟨x, rfl⟩ := Int.eq_ofNat_of_zero_le h0
  show bits .xor .u32 ((4294967295 : Nat) : Int) (x : Int) = _
  rw [u32_xor_nat _ _ (by decide) (by omega), xor_all x (by omega)]
  omega

theorem two_eq {A B : Type} (f : A → A → B) {a a' b b' : A} (h1 : a = a') (h2 : b = b') : f a b = f a' b' := by rw [h1, h2]

theorem step_e0 (t a b : Int) : (t + a + b) % 4294967296 = (t % 4294967296 + (a + b) % 4294967296) % 4294967296 := by omega

theorem step_e4 (t a : Int) : (a + t) % 4294967296 = (a + t % 4294967296) % 4294967296 := by omega

theorem cells8 {w : World} {g : Nat} {a0 a1 a2 a3 a4 a5 a6 a7 : Int} (h : RowU w g (St.toL ⟨a0, a1, a2, a3, a4, a5, a6, a7⟩)) :
    w.cell? ⟨g, 0, none⟩ = some (.int .u32 a0) ∧ w.cell? ⟨g, 1, none⟩ = some (.int .u32 a1) ∧ w.cell? ⟨g, 2, none⟩ = some (.int .u32 a2) ∧ w.cell? ⟨g, 3, none⟩ = some (.int .u32 a3) ∧ w.cell? ⟨g, 4, none⟩ = some (.int .u32 a4) ∧ w.cell? ⟨g, 5, none⟩ = some (.int .u32 a5) ∧ w.cell? ⟨g, 6, none⟩ = some (.int .u32 a6) ∧ w.cell? ⟨g, 7, none⟩ = some (.int .u32 a7) :=
  ⟨h.2 0 (by simp [St.toL]), h.2 1 (by simp [St.toL]), h.2 2 (by simp [St.toL]), h.2 3 (by simp [St.toL]), h.2 4 (by simp [St.toL]), h.2 5 (by simp [St.toL]), h.2 6 (by simp [St.toL]), h.2 7 (by simp [St.toL])⟩

set_option maxRecDepth 100000 in
set_option maxHeartbeats 2000000 in
theorem step_any (s : St) (g c : Nat) (k x : Int) (w : World) (hs : s.Ok) (hr : RowU w g s.toL) :
    Calls Tryz.prog 51 #[.slice (some ⟨g, 0, none⟩) 8 c, .int .u32 k, .int .u32 x] w fun e w' => (∃ g', e = .returned (.slice (some ⟨g', 0, none⟩) 8 8) ∧ RowU w' g' (s.step k x).toL ∧ w.heap.size ≤ g') ∧ Below w.heap.size w w' := by
  obtain ⟨a0, a1, a2, a3, a4, a5, a6, a7⟩ := s
  have HR := Lib.hid hr
  have C0 := cells8 hr
  obtain ⟨hlt, -⟩ := hr
  obtain ⟨c0, c1, c2, c3, c4, c5, c6, c7⟩ := C0
  have TE := Lib.hid (fun n w h1 h2 => turn_any a4 n w hs.e h1 h2)
  have TA := Lib.hid (fun n w h1 h2 => turn_any a0 n w hs.a h1 h2)
  have HS := Lib.hid hs
  clear hs
  go_enter Tryz.func51, Tryz.ntmps51
  go_wp2_with fail
  clear c0 c1 c2 c3 c4 c5 c6 c7
  refine (TE.out 6 _ (by decide) (by decide)).mono ?_
  rintro e w1 ⟨rfl, hb1⟩
  have HR1 := Lib.hid (HR.out.keep hlt hb1)
  have B1 := Lib.hid hb1
  clear hb1 HR
  go_wp2_with fail
  refine (TE.out 11 _ (by decide) (by decide)).mono ?_
  rintro e w2 ⟨rfl, hb2⟩
  have hlt2 := HR1.out.1
  have HR2 := Lib.hid (HR1.out.keep hlt2 hb2)
  have B2 := Lib.hid (B1.out.trans (hb2.mono B1.out.size))
  clear hb2 HR1 hlt2 B1
  go_wp2_with fail
  refine (TE.out 25 _ (by decide) (by decide)).mono ?_
  rintro e w3 ⟨rfl, hb3⟩
  have hlt3 := HR2.out.1
  have hr3 := HR2.out.keep hlt3 hb3
  have HR3 := Lib.hid hr3
  have B3 := Lib.hid (B2.out.trans (hb3.mono B2.out.size))
  obtain ⟨c0, c1, c2, c3, c4, c5, c6, c7⟩ := cells8 hr3
  have u4 := HS.out.e
  obtain ⟨u40, u41⟩ := u4
  clear hb3 HR2 hlt3 hr3 B2 TE
  go_wp2_with fail
  go_quiet (fail)
  generalize nq = n1
  go_wp2_with fail
  have R4 := Lib.hid (show RowU (w3.drewN n1) g (St.toL ⟨a0, a1, a2, a3, a4, a5, a6, a7⟩) from HR3.out)
  have B4 := Lib.hid (show Below w.heap.size w (w3.drewN n1) from B3.out.trans ⟨rfl, rfl, rfl, Nat.le_refl _, fun _ _ => rfl⟩)
  clear c0 c1 c2 c3 c4 c5 c6 c7 HR3 B3
  refine (TA.out 2 _ (by decide) (by decide)).mono ?_
  rintro e w5 ⟨rfl, hb1⟩
  have hlt2 := R4.out.1
  have R5 := Lib.hid (R4.out.keep hlt2 hb1)
  have B5 := Lib.hid (B4.out.trans (hb1.mono B4.out.size))
  clear hb1 R4 B4 hlt2
  go_wp2_with fail
  refine (TA.out 13 _ (by decide) (by decide)).mono ?_
  rintro e w6 ⟨rfl, hb1⟩
  have hlt2 := R5.out.1
  have R6 := Lib.hid (R5.out.keep hlt2 hb1)
  have B6 := Lib.hid (B5.out.trans (hb1.mono B5.out.size))
  clear hb1 R5 B5 hlt2
  go_wp2_with fail
  refine (TA.out 22 _ (by decide) (by decide)).mono ?_
  rintro e w7 ⟨rfl, hb1⟩
  have hlt2 := R6.out.1
  have hr7 := R6.out.keep hlt2 hb1
  obtain ⟨c0, c1, c2, c3, c4, c5, c6, c7⟩ := cells8 hr7
  have B7 := Lib.hid (B6.out.trans (hb1.mono B6.out.size))
  clear hb1 R6 B6 hlt2 hr7 TA
  go_wp2_with fail
  go_quiet (fail)
  generalize nq = n2
  go_wp2_with fail
  go_region
  go_wp2_with fail
  go_ret
  refine ⟨⟨w7.heap.size, rfl, RowU.alloc (w7.drewN (n2 + 1)) _ _ _ ?_, B7.out.size⟩, ?_⟩
  · rw [← x32_all a4 ⟨u40, u41⟩]
    simp only [St.toL, St.step, List.map]
    exact two_eq (fun p q => #[Value.int .u32 p, .int .u32 a0, .int .u32 a1, .int .u32 a2, .int .u32 q, .int .u32 a4, .int .u32 a5, .int .u32 a6]) (step_e0 _ _ _) (step_e4 _ _)
  · have hb8 : Below w.heap.size w (w7.drewN (n2 + 1)) := B7.out.trans ⟨rfl, rfl, rfl, Nat.le_refl _, fun _ _ => rfl⟩
    exact hb8.alloc B7.out.size _
end Go.Proofs.YtepcaglekgeamaaGreatDoor
namespace Go.Proofs.YtepcaglekgeamaaGreatDoor
open Go.RowKit

theorem grownBy_of_below' {w w' : World} (h : Below w.heap.size w w') : w.grownBy w' none := ⟨h.os, h.tape, h.output, h.size, fun k hk _ => h.block k hk⟩

structure SchedIs (l : List UInt8) (W : List Int) : Prop where
  mk ::
  out : sched l 48 = W

structure FinIs (s : St) (l : List UInt8) (t : St) : Prop where
  mk ::
  out : blockS s l = t

def SameW (a b : World) : Prop := a = b

theorem infoU32 : (Tryz.prog.info? 68).map (fun i => (i.zero, i.size, i.bytes)) = some (some (.int .u32 0), 1, 4) := by kernel_rfl

def wordsC (l : List Int) : List Value := l.map (Value.int .u32)

theorem wordsC_append (l m : List Int) : wordsC (l ++ m) = wordsC l ++ wordsC m := by simp [wordsC]

def part4 (l : List UInt8) (t : Nat) : Nat → Nat
  | 0 => 0
  | i + 1 => 256 * part4 l t i + (l.getD (4 * t + i) 0).toNat

theorem part4_lt (l : List UInt8) (t i : Nat) : part4 l t i < 256 ^ i := by
  induction i with
  | zero => simp [part4]
  | succ i ih =>
    have := (l.getD (4 * t + i) 0).toNat_lt
    unfold part4
    rw [Nat.pow_succ]
    omega

theorem part4_small (l : List UInt8) (t i : Nat) (h : i < 4) : part4 l t i < 16777216 := by
  have h1 := part4_lt l t i
  have h2 : 256 ^ i ≤ 256 ^ 3 := Nat.pow_le_pow_right (by decide) (by omega)
  have h3 : (256 : Nat) ^ 3 = 16777216 := rfl
  omega

theorem part4_word (l : List UInt8) (t : Nat) : ((part4 l t 4 : Nat) : Int) = word4 l t := by
  simp only [part4, word4, Nat.mul_comm 4 t, Nat.add_zero]
  omega

theorem byte_getD (t : ByteArray) (i : Nat) (h : i < t.size) : t.data.toList.getD i 0 = t[i] := by
  have h2 : i < t.data.toList.length := by simpa using h
  rw [List.getD_eq_getElem?_getD, List.getElem?_eq_getElem h2]
  rfl

theorem add_take (s t : St) (q : Nat) (h : q < 8) : (s.add t).toL.take (q + 1) = (s.add t).toL.take q ++ [(s.toL.getD q 0 + t.toL.getD q 0) % 4294967296] := by
  have h : q = 0 ∨ q = 1 ∨ q = 2 ∨ q = 3 ∨ q = 4 ∨ q = 5 ∨ q = 6 ∨ q = 7 := by omega
  rcases h with rfl | rfl | rfl | rfl | rfl | rfl | rfl | rfl <;> rfl

set_option maxRecDepth 100000 in
set_option maxHeartbeats 1000000 in
theorem block_any (s : St) (gh ch gk ck : Nat) (t : ByteArray) (w : World) (hs : s.Ok) (hr : RowU w gh s.toL) (hk : RowU w gk keysL) (hz : t.size = 64) :
    Calls Tryz.prog 35 #[.slice (some ⟨gh, 0, none⟩) 8 ch, .slice (some ⟨gk, 0, none⟩) 64 ck, .string t] w fun e w' => (∃ g c, e = .returned (.slice (some ⟨g, 0, none⟩) 8 c) ∧ RowU w' g (blockS s t.data.toList).toL ∧ w.heap.size ≤ g) ∧ Below w.heap.size w w' := by
  obtain ⟨i0, hi, hz0, hz1, hz2⟩ := info_parts infoU32
  have HR := Lib.hid hr
  have HK := Lib.hid hk
  have HS := Lib.hid hs
  clear hr hk hs
  go_enter Tryz.func35, Tryz.ntmps35
  go_wp2_with fail
  go_loopw [7, 8] (fun bv iv wr => ∃ j : Nat, j ≤ 16 ∧ iv = .int .i64 j ∧ (∃ g c, bv = .slice (some ⟨g, 0, none⟩) j c ∧ w.heap.size ≤ g) ∧ wr.ownsRow w.heap.size 68 1 bv j (wordsC (words t.data.toList j)) ∧ Below w.heap.size w wr) (fun _ i _ => 16 - (intOf i).toNat)
  case atStart => exact ⟨0, Nat.zero_le _, rfl, ⟨_, _, rfl, Nat.le_refl _⟩, World.ownsRow_lit w #[] 0 (Nat.le_refl _) (Nat.zero_le _) rfl, (Below.refl _ _).alloc (by omega) _⟩
  case round =>
    obtain ⟨j, hj, rfl, ⟨g, c, rfl, hgB⟩, ho, hb⟩ := hrel
    have hbs := hb.size
    have HO := Lib.hid ho
    have HB := Lib.hid hb
    clear ho hb
    by_cases hlt : j < 16
    · obtain ⟨wo, rfl⟩ : ∃ wo : World, wo = wr := ⟨_, rfl⟩
      go_wp2_with fail
      rw [show decide ((j : Int) < 16) = true from decide_eq_true (by omega)]
      go_loopw [9, 10] (fun x i wi => ∃ n : Nat, n ≤ 4 ∧ i = .int .i64 n ∧ x = .int .u32 ((part4 t.data.toList j n : Nat) : Int) ∧ SameW wi wo) (fun _ i _ => 4 - (intOf i).toNat)
      case atStart => exact ⟨0, Nat.zero_le _, rfl, rfl, rfl⟩
      case round =>
        obtain ⟨n, hn, rfl, rfl, hsw⟩ := hrel
        unfold SameW at hsw
        subst hsw
        by_cases hlt4 : n < 4
        · have hi4 : 4 * j + n < t.size := by omega
          have hc := t[4 * j + n].toNat_lt
          have hx := part4_small t.data.toList j n hlt4
          have hs := Lib.hid (show part4 t.data.toList j (n + 1) = 256 * part4 t.data.toList j n + t[4 * j + n].toNat by rw [← byte_getD t _ hi4]; rfl)
          generalize part4 t.data.toList j n = x at hx hs
          go_wp2_with fail
          go_roundw
          case rel => exact ⟨n + 1, by omega, by go_num, by rw [hs.out]; go_num, rfl⟩
          case measure => simp [intOf]; omega
        · obtain rfl : n = 4 := by omega
          rw [part4_word]
          have HW := Lib.hid (words_succ t.data.toList j)
          have hu := word4_u32 t.data.toList j
          generalize word4 t.data.toList j = x at HW hu
          obtain ⟨hu0, hu1⟩ := hu
          go_wp2_with (at_builtin; refine wpList_append_own _ rfl _ _ 65 rfl w.heap.size 68 i0 (.int .u32 0) 1 4 Tryz.underlying65 hi hz0 hz1 hz2 rfl (by decide) _ j (wordsC (words t.data.toList j)) rfl (HO.out.alloc _) ⟨wr.heap.size, 0, none⟩ 1 1 [.int .u32 x] rfl rfl ?c1 ?c2 ?c3 ?c4 ?c5 ?_)
          case c1 =>
            intro i u hi'
            match i, hi' with
            | 0, hi' => simp at hi'; subst hi'; rw [addr0_add, World.cell?_alloc_at _ _ _ _ rfl]; rfl
            | i + 1, hi' => simp at hi'
          case c2 => intro u hu; simp at hu; subst hu; rfl
          case c3 => unfold maxLen; omega
          case c4 => omega
          case c5 => simp; omega
          intro v' w3 hown3 hgrow3 _
          have hbb3 : Below w.heap.size w w3 := (HB.out.alloc hbs _).grown hgrow3 (by simp; omega) (fun k hk => by cases hk; exact hgB)
          have hv' : ∃ g c, v' = .slice (some ⟨g, 0, none⟩) (j + 1) c ∧ w.heap.size ≤ g := by
            rcases hown3.2 with ⟨_, h0⟩ | ⟨g, c', cur, hv, _⟩
            · omega
            · exact ⟨_, _, hv, (hown3.lt g (by rw [hv]; rfl)).1⟩
          obtain ⟨g', c', rfl, hg'⟩ := hv'
          have HO3 := Lib.hid (show w3.ownsRow w.heap.size 68 1 (.slice (some ⟨g', 0, none⟩) (j + 1) c') (j + 1) (wordsC (words t.data.toList (j + 1))) by rw [HW.out, wordsC_append]; exact hown3)
          have HB3 := Lib.hid hbb3
          clear hown3 hgrow3 hbb3 HO HB
          go_wp2_with fail
          go_roundw
          case rel => exact ⟨j + 1, by omega, by go_num, ⟨_, _, rfl, hg'⟩, HO3.out, HB3.out⟩
          case measure => simp [intOf]; omega
    · have j16 : 16 ≤ j := by omega
      have H16 := Lib.hid (show wr.ownsRow w.heap.size 68 1 (.slice (some ⟨g, 0, none⟩) 16 c) 16 (wordsC (sched t.data.toList 0)) by
        obtain rfl : j = 16 := by omega
        exact HO.out)
      have j16' := Lib.hid (show j = 16 by omega)
      go_wp2_with fail
      go_loopw [7, 11] (fun bv iv wr => ∃ n : Nat, 16 ≤ n ∧ n ≤ 64 ∧ iv = .int .i64 n ∧ (∃ g c, bv = .slice (some ⟨g, 0, none⟩) n c ∧ w.heap.size ≤ g) ∧ wr.ownsRow w.heap.size 68 1 bv n (wordsC (sched t.data.toList (n - 16))) ∧ Below w.heap.size w wr) (fun _ i _ => 64 - (intOf i).toNat)
      case atStart => exact ⟨16, Nat.le_refl _, by decide, rfl, ⟨g, c, by rw [j16'.out], hgB⟩, by rw [j16'.out]; exact H16.out, HB.out⟩
      case round =>
        clear H16 j16' HO HB hgB j16 hlt hbs
        obtain ⟨n, hn1, hn2, rfl, ⟨g, c, rfl, hgB⟩, ho, hb⟩ := hrel
        have hbs := hb.size
        by_cases hlt : n < 64
        · have hlen := sched_length t.data.toList (n - 16)
          have hcell : ∀ i, i < n → wr.cell? ⟨g, i, none⟩ = some (.int .u32 ((sched t.data.toList (n - 16)).getD i 0)) := fun i hi => by
            rw [ho.cellAt i (by omega)]
            have h2 : i < (sched t.data.toList (n - 16)).length := by omega
            simp [wordsC, h2]
          have c0 := hcell (n - 15) (by omega)
          have c1 := hcell (n - 2) (by omega)
          have c2 := hcell (n - 7) (by omega)
          have c3 := hcell (n - 16) (by omega)
          have HCELL := Lib.hid hcell
          have U := sched_u32 t.data.toList (n - 16)
          have u0 := Lib.hid (getD_u32 U (n - 15))
          have u1 := Lib.hid (getD_u32 U (n - 2))
          have u2 := Lib.hid (getD_u32 U (n - 7))
          have u3 := Lib.hid (getD_u32 U (n - 16))
          have HN := Lib.hid (show nextW ((sched t.data.toList (n - 16)).getD (n - 15) 0) ((sched t.data.toList (n - 16)).getD (n - 2) 0) ((sched t.data.toList (n - 16)).getD (n - 7) 0) ((sched t.data.toList (n - 16)).getD (n - 16) 0) = next (sched t.data.toList (n - 16)) n from rfl)
          have HO := Lib.hid ho
          have HB := Lib.hid hb
          have hgl : g < wr.heap.size := (ho.lt g rfl).2
          clear hcell U ho hb HCELL
          generalize (sched t.data.toList (n - 16)).getD (n - 15) 0 = x0 at c0 u0 HN
          generalize (sched t.data.toList (n - 16)).getD (n - 2) 0 = x1 at c1 u1 HN
          generalize (sched t.data.toList (n - 16)).getD (n - 7) 0 = x2 at c2 u2 HN
          generalize (sched t.data.toList (n - 16)).getD (n - 16) 0 = x3 at c3 u3 HN
          obtain ⟨m0, m1⟩ := u0.out
          obtain ⟨m2, m3⟩ := u1.out
          go_wp2_with fail
          have C2 := Lib.hid c2
          have C3 := Lib.hid c3
          clear c0 c1 c2 c3
          refine (turn_any x0 7 _ u0.out (by decide) (by decide)).mono ?_
          rintro e w1 ⟨rfl, hb1⟩
          have B1 := Lib.hid hb1
          clear hb1
          go_wp2_with fail
          refine (turn_any x0 18 _ u0.out (by decide) (by decide)).mono ?_
          rintro e w2 ⟨rfl, hb2⟩
          have B2 := Lib.hid (B1.out.trans (hb2.mono B1.out.size))
          clear hb2 B1
          go_wp2_with fail
          refine (turn_any x1 17 _ u1.out (by decide) (by decide)).mono ?_
          rintro e w3 ⟨rfl, hb3⟩
          have B3 := Lib.hid (B2.out.trans (hb3.mono B2.out.size))
          clear hb3 B2
          go_wp2_with fail
          refine (turn_any x1 19 _ u1.out (by decide) (by decide)).mono ?_
          rintro e w4 ⟨rfl, hb4⟩
          have b4 := B3.out.trans (hb4.mono B3.out.size)
          have c2 : w4.cell? ⟨g, n - 7, none⟩ = some (.int .u32 x2) := by rw [World.cell?_of_block (b4.block g hgl)]; exact C2.out
          have c3 : w4.cell? ⟨g, n - 16, none⟩ = some (.int .u32 x3) := by rw [World.cell?_of_block (b4.block g hgl)]; exact C3.out
          have HO4 := Lib.hid (HO.out.kept (grownBy_of_below' b4) (Or.inr (by simp [Value.ownBlock]))) 
          have HB4 := Lib.hid (HB.out.trans (b4.mono hbs))
          have hbs4 : w.heap.size ≤ w4.heap.size := Nat.le_trans hbs b4.size
          clear hb4 b4 C2 C3 B3 HO HB
          go_wp2_with fail
          have HS0 := Lib.hid (show (sig x1 17 19 1024 + x2 + sig x0 7 18 8 + x3) % 4294967296 = next (sched t.data.toList (n - 16)) n from HN.out)
          unfold sig x32 at HS0
          generalize bits BinOp.xor IntKind.u32 (bits BinOp.xor IntKind.u32 (rotr x0 7) (rotr x0 18)) (x0 / 8) = s0 at HS0 ⊢
          generalize bits BinOp.xor IntKind.u32 (bits BinOp.xor IntKind.u32 (rotr x1 17) (rotr x1 19)) (x1 / 1024) = s1 at HS0 ⊢
          clear m0 m1 m2 m3 u0 u1 u2 u3
          obtain ⟨p1, e3⟩ : ∃ p, IntKind.u32.wrap (s1 + x2) = p := ⟨_, rfl⟩
          obtain ⟨p2, e4⟩ : ∃ p, IntKind.u32.wrap (p1 + s0) = p := ⟨_, rfl⟩
          obtain ⟨p3, e5⟩ : ∃ p, IntKind.u32.wrap (p2 + x3) = p := ⟨_, rfl⟩
          have HP := Lib.hid (show p3 = next (sched t.data.toList (n - 16)) n by
            rw [← HS0.out, ← e5, ← e4, ← e3]
            simp only [IntKind.wrap_u32]
            omega)
          have e1 : IntKind.i64.wrap ((n : Int) - 7) = ((n - 7 : Nat) : Int) := by rw [IntKind.wrap_i64]; omega
          have e2 : IntKind.i64.wrap ((n : Int) - 16) = ((n - 16 : Nat) : Int) := by rw [IntKind.wrap_i64]; omega
          have i1 : ((n - 7 : Nat) : Int) < (n : Int) := by omega
          have i2 : ((n - 16 : Nat) : Int) < (n : Int) := by omega
          have n64 : n + 1 ≤ 64 := hlt
          clear hlt
          go_region_law (first
            | (refine step_append_lies _ (by rfl) _ _ _ (by rfl) w.heap.size 68 i0 _ 1 4 Tryz.underlying65 hi hz0 hz1 hz2 rfl (by decide) _ n (wordsC (sched t.data.toList (n - 16))) (by rfl) ((HO4.out.alloc _).drew) ⟨w4.heap.size, 0, none⟩ 1 1 [.int .u32 p3] (by rfl) (by rfl) (World.news_of_block (cs := #[.int .u32 p3]) (t := 68) (fr := (0, 0)) (heap_alloc_new w4 _)) (by simp [Value.oneCell']) (by decide) (by unfold maxLen; omega) (by omega) (by simp; omega) (w4.heap.size + 1) (by simp) ?_; intro g3 c3 w5 hown3 hgrow3 hat3 hlt3)
            | go_simp)
          all_goals
            have hb5 := Lib.hid (show Below w.heap.size w w5 from ((HB4.out.alloc hbs4 _).drew).grown hgrow3 (by simp; omega) (fun k hk => by cases hk; exact hgB))
            have hg3 : w.heap.size ≤ g3 := by
              rcases hat3 with h | h
              · cases h; exact hgB
              · omega
            have hrow := Lib.hid (show w5.ownsRow w.heap.size 68 1 (.slice (some ⟨g3, 0, none⟩) (n + 1) c3) (n + 1) (wordsC (sched t.data.toList (n + 1 - 16))) by
              rw [show n + 1 - 16 = n - 16 + 1 by omega, sched_succ, show 16 + (n - 16) = n by omega, ← HP.out, wordsC_append]
              exact hown3)
            clear hown3 hgrow3 hat3 HP HN HS0 HO4 HB4 e1 e2 e3 e4 e5
            go_wp2_with fail
            go_roundw
            case rel => exact ⟨n + 1, by omega, by omega, by go_num, ⟨_, _, rfl, hg3⟩, hrow.out, hb5.out⟩
            case measure => simp [intOf]; omega
        · have n64 : 64 ≤ n := by omega
          have HO := Lib.hid ho
          have HB := Lib.hid hb
          clear ho hb hlt
          go_wp2_with fail
          have ho := HO.out
          have hb := HB.out
          have hgl : g < wr.heap.size := (ho.lt g rfl).2
          have HW := Lib.hid (show RowU wr g (sched t.data.toList 48) from ⟨hgl, fun i hi => by
            have e48 : n - 16 = 48 := by omega
            rw [e48] at ho
            rw [sched_length] at hi
            rw [ho.cellAt i (by omega)]
            have h2 : i < (sched t.data.toList 48).length := by rw [sched_length]; omega
            simp [wordsC, h2]⟩)
          have hHR := HR.out.keep HR.out.1 hb
          have hHK := HK.out.keep HK.out.1 hb
          have HR2 := Lib.hid hHR
          have HK2 := Lib.hid hHK
          have gh1 : gh < w.heap.size := HR.out.1
          have n64' := Lib.hid (show n = 64 by omega)
          clear ho hb HO HR HK hHR hHK
          obtain ⟨wo, rfl⟩ : ∃ wo : World, wo = wr := ⟨_, rfl⟩
          generalize hWW : sched t.data.toList 48 = WW at HW
          have HWW := Lib.hid (SchedIs.mk hWW)
          have hWl : WW.length = 64 := by rw [← hWW, sched_length]
          clear hWW
          go_loopw [16, 17] (fun v i wr => ∃ m : Nat, m ≤ 64 ∧ i = .int .i64 m ∧ (∃ g2 c2, v = .slice (some ⟨g2, 0, none⟩) 8 c2 ∧ RowU wr g2 (rounds s WW m).toL) ∧ Below wo.heap.size wo wr) (fun _ i _ => 64 - (intOf i).toNat)
          case atStart => exact ⟨0, Nat.zero_le _, rfl, ⟨_, _, rfl, HR2.out⟩, Below.refl _ _⟩
          case round =>
            obtain ⟨m, hm, rfl, ⟨g2, c2, rfl, hv⟩, hb2⟩ := hrel
            by_cases hlt2 : m < 64
            · have hmn : m < n := by omega
              have ck1 := (HK2.out.keep HK2.out.1 hb2).2 m (by show m < 64; exact hlt2)
              have cw1 := (HW.out.keep HW.out.1 hb2).2 m (by omega)
              have HST := Lib.hid (rounds_succ' s WW m)
              have hok := rounds_ok HS.out WW m
              generalize rounds s WW m = st at hv HST hok
              generalize keysL.getD m 0 = k at ck1 HST
              generalize WW.getD m 0 = x at cw1 HST
              have ST := Lib.hid (fun w1 (h : RowU w1 g2 st.toL) => step_any st g2 c2 k x w1 hok h)
              have HV := Lib.hid hv
              have HB2 := Lib.hid hb2
              clear hv hb2 hok
              go_wp2_with fail
              go_region_law (first
                | (go_simp; go_at_call 51; refine (ST.out wr.drew (show RowU wr.drew g2 st.toL from HV.out)).mono ?_; rintro e w5 ⟨⟨g5, rfl, hv5, hge5⟩, hb5⟩)
                | go_simp)
              all_goals
                have HV5 := Lib.hid (show RowU w5 g5 (rounds s WW (m + 1)).toL by rw [HST.out]; exact hv5)
                have hb6 : Below wr.heap.size wr w5 := (show Below wr.heap.size wr wr.drew from ⟨rfl, rfl, rfl, Nat.le_refl _, fun _ _ => rfl⟩).trans hb5
                have HB5 := Lib.hid (HB2.out.trans (hb6.mono HB2.out.size))
                clear hv5 hb5 hb6 hge5 ST HV HB2 ck1 cw1
                go_wp2_with fail
                go_roundw
                case rel => exact ⟨m + 1, by omega, by go_num, ⟨_, _, rfl, HV5.out⟩, HB5.out⟩
                case measure => simp [intOf]; omega
            · have hm64 : 64 ≤ m := by omega
              have HV := Lib.hid (show RowU wr g2 (rounds s WW 64).toL by
                obtain rfl : m = 64 := by omega
                exact hv)
              have HH := Lib.hid (HR2.out.keep HR2.out.1 hb2)
              have HB3 := Lib.hid (HB.out.trans (hb2.mono hbs))
              have hbs3 : w.heap.size ≤ wr.heap.size := Nat.le_trans hbs hb2.size
              have HE := Lib.hid (show blockS s t.data.toList = s.add (rounds s WW 64) by unfold blockS; rw [HWW.out.out])
              clear hv hb2 HR2 HK2 HW HWW HB hWl
              generalize rounds s WW 64 = st at HV HE
              obtain ⟨fin, hfin⟩ : ∃ fin, blockS s t.data.toList = fin := ⟨_, rfl⟩
              have HF := Lib.hid (FinIs.mk hfin)
              rw [hfin] at HE
              clear hfin
              obtain ⟨wp, rfl⟩ : ∃ wp : World, wp = wr := ⟨_, rfl⟩
              go_wp2_with fail
              go_loopw [18, 19] (fun ov iv wr => ∃ q : Nat, q ≤ 8 ∧ iv = .int .i64 q ∧ (∃ g c, ov = .slice (some ⟨g, 0, none⟩) q c ∧ wp.heap.size ≤ g) ∧ wr.ownsRow wp.heap.size 68 1 ov q (wordsC (fin.toL.take q)) ∧ Below wp.heap.size wp wr) (fun _ i _ => 8 - (intOf i).toNat)
              case atStart => exact ⟨0, Nat.zero_le _, rfl, ⟨_, _, rfl, Nat.le_refl _⟩, World.ownsRow_lit wp #[] 0 (Nat.le_refl _) (Nat.zero_le _) rfl, (Below.refl _ _).alloc (Nat.le_refl _) _⟩
              case round =>
                obtain ⟨q, hq, rfl, ⟨g6, c6, rfl, hg6⟩, ho6, hb6⟩ := hrel
                have hbs6 := hb6.size
                by_cases hlt8 : q < 8
                · have ch1 := (HH.out.keep HH.out.1 hb6).2 q (by show q < 8; exact hlt8)
                  have cv1 := (HV.out.keep HV.out.1 hb6).2 q (by show q < 8; exact hlt8)
                  have HT := Lib.hid (show fin.toL.take (q + 1) = fin.toL.take q ++ [(s.toL.getD q 0 + st.toL.getD q 0) % 4294967296] by rw [HE.out]; exact add_take s st q hlt8)
                  generalize s.toL.getD q 0 = a at ch1 HT
                  generalize st.toL.getD q 0 = b at cv1 HT
                  obtain ⟨p1, e1⟩ : ∃ p, IntKind.u32.wrap (a + b) = p := ⟨_, rfl⟩
                  have HP := Lib.hid (show (a + b) % 4294967296 = p1 by rw [← e1]; simp only [IntKind.wrap_u32])
                  have HO6 := Lib.hid ho6
                  have HB6 := Lib.hid hb6
                  clear ho6 hb6
                  go_wp2_with fail
                  go_region_law (first
                    | (refine step_append_lies _ (by rfl) _ _ _ (by rfl) wp.heap.size 68 i0 _ 1 4 Tryz.underlying65 hi hz0 hz1 hz2 rfl (by decide) _ q (wordsC (fin.toL.take q)) (by rfl) ((HO6.out.alloc _).drew) ⟨wr.heap.size, 0, none⟩ 1 1 [.int .u32 p1] (by rfl) (by rfl) (World.news_of_block (cs := #[.int .u32 p1]) (t := 68) (fr := (0, 0)) (heap_alloc_new wr _)) (by simp [Value.oneCell']) (by decide) (by unfold maxLen; omega) (by omega) (by simp; omega) (wr.heap.size + 1) (by simp) ?_; intro g7 c7 w7 hown7 hgrow7 hat7 hlt7)
                    | go_simp)
                  all_goals
                    have hb7 := Lib.hid (show Below wp.heap.size wp w7 from ((HB6.out.alloc hbs6 _).drew).grown hgrow7 (by simp; omega) (fun k hk => by cases hk; exact hg6))
                    have hg7 : wp.heap.size ≤ g7 := by
                      rcases hat7 with h | h
                      · cases h; exact hg6
                      · omega
                    have hrow := Lib.hid (show w7.ownsRow wp.heap.size 68 1 (.slice (some ⟨g7, 0, none⟩) (q + 1) c7) (q + 1) (wordsC (fin.toL.take (q + 1))) by
                      rw [HT.out, HP.out, wordsC_append]
                      exact hown7)
                    clear hown7 hgrow7 hat7 HO6 HB6 e1
                    go_wp2_with fail
                    go_roundw
                    case rel => exact ⟨q + 1, by omega, by go_num, ⟨_, _, rfl, hg7⟩, hrow.out, hb7.out⟩
                    case measure => simp [intOf]; omega
                · have hq8 := Lib.hid (show q = 8 by omega)
                  have HV8 := Lib.hid (show RowU wr g6 fin.toL from ⟨(ho6.lt g6 rfl).2, fun i hi => by
                    have h8 : fin.toL.length = 8 := rfl
                    rw [hq8.out] at ho6
                    rw [ho6.cellAt i (by omega), List.take_of_length_le (by omega)]
                    simp [wordsC, hi]⟩)
                  have HB7 := Lib.hid (HB3.out.trans (hb6.mono hbs3))
                  have hg8 : w.heap.size ≤ g6 := Nat.le_trans hbs3 hg6
                  have q8 : 8 ≤ q := by omega
                  clear ho6 hb6
                  go_wp2_with fail
                  go_ret
                  exact ⟨⟨g6, c6, by rw [← hq8.out]; rfl, by rw [HF.out.out]; exact HV8.out, hg8⟩, HB7.out⟩
end Go.Proofs.YtepcaglekgeamaaGreatDoor
namespace Go.Proofs.YtepcaglekgeamaaGreatDoor
open Go.RowKit

set_option maxRecDepth 100000 in
set_option maxHeartbeats 1000000 in
theorem first_ref (w : World) :
    Calls Tryz.prog 33 #[] w fun e w' => (∃ g, e = .returned (.slice (some ⟨g, 0, none⟩) 8 8) ∧ RowU w' g begins.toL ∧ w.heap.size ≤ g) ∧ Below w.heap.size w w' := by
  go_enter Tryz.func33, Tryz.ntmps33
  go_wp2_with fail
  go_ret
  exact ⟨⟨_, rfl, RowU.alloc w _ _ _ (by kernel_rfl), Nat.le_refl _⟩, (Below.refl _ _).alloc (Nat.le_refl _) _⟩

set_option maxRecDepth 100000 in
set_option maxHeartbeats 1000000 in
theorem keys_ref (w : World) :
    Calls Tryz.prog 34 #[] w fun e w' => (∃ g, e = .returned (.slice (some ⟨g, 0, none⟩) 64 64) ∧ RowU w' g keysL ∧ w.heap.size ≤ g) ∧ Below w.heap.size w w' := by
  go_enter Tryz.func34, Tryz.ntmps34
  go_wp2_with fail
  go_ret
  exact ⟨⟨_, rfl, RowU.alloc w _ _ _ (by kernel_rfl), Nat.le_refl _⟩, (Below.refl _ _).alloc (Nat.le_refl _) _⟩
end Go.Proofs.YtepcaglekgeamaaGreatDoor
namespace Go.Proofs.YtepcaglekgeamaaGreatDoor
open Go.RowKit

structure OwnB (w : World) (B g cap : Nat) (bs : List UInt8) : Prop where
  base : B ≤ g
  room : bs.length ≤ cap
  small : cap ≤ maxLen
  row : ∃ cur fz, w.heap[g]? = some (.cells cur 5 fz) ∧ (fz = (0, 0) ∨ fz.1 = cur.size) ∧ cur.size = cap ∧ cur.toList.take bs.length = Lib.byteCells bs

theorem OwnB.lt {w : World} {B g cap : Nat} {bs : List UInt8} (h : OwnB w B g cap bs) : g < w.heap.size := by
  obtain ⟨cur, fz, h, _⟩ := h.row
  exact (Array.getElem?_eq_some_iff.1 h).1

theorem OwnB.kept {w w' : World} {B g cap n : Nat} {bs : List UInt8} (h : OwnB w B g cap bs) (hb : Below n w w') (hn : g < n) : OwnB w' B g cap bs := by
  obtain ⟨cur, fz, h1, h2⟩ := h.row
  exact ⟨h.base, h.room, h.small, cur, fz, by rw [hb.block g hn]; exact h1, h2⟩

theorem OwnB.alloc {w : World} {B g cap : Nat} {bs : List UInt8} (h : OwnB w B g cap bs) (o : Obj) : OwnB (w.alloc o) B g cap bs :=
  h.kept ((Below.refl w.heap.size w).alloc (Nat.le_refl _) o) h.lt

theorem OwnB.cell {w : World} {B g cap : Nat} {bs : List UInt8} (h : OwnB w B g cap bs) (i : Nat) (hi : i < bs.length) : w.cell? ⟨g, i, none⟩ = some (.int .u8 (bs[i].toNat : Int)) := by
  obtain ⟨cur, fz, h1, _, _, h4⟩ := h.row
  have h5 : (Lib.byteCells bs)[i]? = some (.int .u8 (bs[i].toNat : Int)) := by simp [Lib.byteCells, hi]
  rw [cell_of_row w g i cur 5 fz h1]
  rw [← h4, List.getElem?_take, if_pos hi] at h5
  simpa using h5

theorem OwnB.frozen {w : World} {B g cap : Nat} {bs : List UInt8} (h : OwnB w B g cap bs) (i : Nat) (hi : i < cap) : w.frozen? ⟨g, i, none⟩ = false := by
  obtain ⟨cur, fz, h1, h2, h3, _⟩ := h.row
  unfold World.frozen?
  simp only [h1]
  rcases h2 with rfl | h2
  · simp
  · have : ¬ fz.1 ≤ i := by omega
    simp [this]

theorem OwnB.there {w : World} {B g cap : Nat} {bs : List UInt8} (h : OwnB w B g cap bs) (i : Nat) (hi : i < cap) : (w.cell? ⟨g, i, none⟩).isSome = true := by
  obtain ⟨cur, fz, h1, _, h3, _⟩ := h.row
  rw [cell_of_row w g i cur 5 fz h1, Array.getElem?_eq_getElem (by omega)]
  rfl

theorem OwnB.of_own {w : World} {B : Nat} {v : Value} {n : Nat} {bs : List UInt8} (h : w.ownsRow B 5 1 v n (Lib.byteCells bs)) (hn : 0 < n) : ∃ g cap, v = .slice (some ⟨g, 0, none⟩) n cap ∧ n = bs.length ∧ OwnB w B g cap bs := by
  have h1 := h.1
  rw [Lib.byteCells_length, Nat.mul_one] at h1
  rcases h.2 with ⟨_, h0⟩ | ⟨g, cap, cur, hv, hb, hg, hc, hm, hs, ht⟩
  · omega
  · rw [Nat.mul_one] at hs ht
    exact ⟨g, cap, hv, h1.symm, hb, by omega, hm, cur, (0, 0), hg, Or.inl rfl, hs, by rw [h1]; exact ht⟩

theorem OwnB.push {w : World} {B g cap : Nat} {bs : List UInt8} (h : OwnB w B g cap bs) (u : UInt8) (hr : bs.length + 1 ≤ cap) : OwnB (w.setCell ⟨g, bs.length, none⟩ (.int .u8 (u.toNat : Int))) B g cap (bs ++ [u]) := by
  obtain ⟨cur, fz, h1, h2, h3, h4⟩ := h.row
  refine ⟨h.base, by simpa using hr, h.small, cur.setIfInBounds bs.length (.int .u8 (u.toNat : Int)), fz, ?_, ?_, by simpa using h3, ?_⟩
  · simp [World.setCell, Array.getElem?_modify, h1]
  · simpa using h2
  · rw [List.length_append, List.length_singleton, Array.toList_setIfInBounds, List.take_succ_eq_append_getElem (by simp; omega), Lib.byteCells_append]
    congr 1
    · rw [List.take_set_of_le (Nat.le_refl _)]; exact h4
    · simp [Lib.byteCells]

theorem wpList_append_B (w : World) {ops : Array Oper} {rest : List Oper} {o : Oper} {a : Act} {Q : Exit → Act → World → Prop}
    (hg : o.guard = none) (s x : Operand) (hop : o.op = Op.call { callee := Callee.builtin Builtin.append, args := #[s, x], argTypes := #[63, 63] })
    (B g cap : Nat) (bs : List UInt8) (n : Nat) (hs : a.eval s = .slice (some ⟨g, 0, none⟩) n cap) (hn : bs.length = n) (h : OwnB w B g cap bs) (ad : Addr) (c : Nat) (u : UInt8) (hx : a.eval x = .slice (some ad) 1 c) (hc : w.cell? (ad.add 0) = some (.int .u8 (u.toNat : Int)))
    (hb : n + 1 ≤ 140737488355328) (hB : B ≤ w.heap.size)
    (hK : ∀ g' cap' w', OwnB w' B g' cap' (bs ++ [u]) → Below B w w' → wpList Tryz.prog ops Q rest (a.put o.dst (.slice (some ⟨g', 0, none⟩) (n + 1) cap')) w') :
    wpList Tryz.prog ops Q (o :: rest) a w := by
  subst hn
  obtain ⟨i0, hi, hz0, hz1, hz2⟩ := info_parts infoByte
  refine wpList_append_arg w hg s x 63 hop 5 i0 (.int .u8 0) 1 1 Tryz.underlying63 hi hz0 hz1 hz2 rfl (by decide) g 0 bs.length cap (Lib.byteCells bs) hs (by rw [Lib.byteCells_length, Nat.mul_one]) ?c1 ad 1 c [.int .u8 (u.toNat : Int)] hx rfl ?c2 ?c3 ?c4 ?c5 ?c6 ?c7 ?c8
  case c1 =>
    intro j v hj
    have hjl : j < bs.length := by
      have := (List.getElem?_eq_some_iff.1 hj).1
      rwa [Lib.byteCells_length] at this
    rw [Nat.zero_add, h.cell j hjl, ← hj]
    simp [Lib.byteCells, hjl]
  case c2 =>
    intro j v hj
    match j, hj with
    | 0, hj => simp at hj; subst hj; exact hc
    | j + 1, hj => simp at hj
  case c3 => intro v hv; simp at hv; subst hv; rfl
  case c4 =>
    intro hr j hj
    have hj0 : j = 0 := by simp at hj; exact hj
    subst hj0
    rw [Nat.zero_add, Nat.mul_one, Nat.add_zero]
    exact ⟨h.there _ (by omega), h.frozen _ (by omega)⟩
  case c5 => unfold maxLen; omega
  case c6 => omega
  case c7 =>
    intro hr
    rw [Nat.zero_add, Nat.mul_one]
    exact hK g cap _ (h.push u hr) ((Below.refl B w).setCell (p := ⟨g, bs.length, none⟩) h.base _)
  case c8 =>
    intro _ v' w' hown hgrow
    have e : Lib.byteCells bs ++ [Value.int .u8 (u.toNat : Int)] = Lib.byteCells (bs ++ [u]) := by rw [Lib.byteCells_append]; rfl
    rw [e] at hown
    obtain ⟨g', cap', rfl, _, ho⟩ := OwnB.of_own hown (by omega)
    exact hK g' cap' w' ⟨Nat.le_trans hB ho.base, ho.room, ho.small, ho.row⟩ ((Below.refl B w).grown hgrow hB (fun _ e => by cases e))

theorem OwnB.conv (w : World) (B : Nat) (s : ByteArray) (hB : B ≤ w.heap.size) (hs : s.size ≤ maxLen) :
    OwnB (w.drew.alloc (.cells (bytesRow s (grownCap w s.size 0 5)) 5 ((bytesRow s (grownCap w s.size 0 5)).size, (bytesRow s (grownCap w s.size 0 5)).size + 1))) B w.heap.size (grownCap w s.size 0 5) s.data.toList := by
  have h1 := grownCap_ge w s.size 0 5
  refine ⟨hB, by simpa using h1, grownCap_le_maxLen w s.size 0 5 hs, _, _, heap_alloc_new w.drew _, Or.inr rfl, ?_, ?_⟩
  · simp [bytesRow]; omega
  · simp [bytesRow, Lib.byteCells]
end Go.Proofs.YtepcaglekgeamaaGreatDoor
namespace Go.Proofs.YtepcaglekgeamaaGreatDoor
open Go.RowKit

def lenOfV : Value → Nat
  | .slice _ n _ => n
  | _ => 0

def pwN (j : Nat) : Nat := 72057594037927936 / 256 ^ j

theorem pwN_succ (j : Nat) : pwN (j + 1) = pwN j / 256 := by unfold pwN; rw [Nat.pow_succ, Nat.div_div_eq_div_mul]

theorem pwN_pos (j : Nat) (h : j < 8) : 0 < pwN j := by
  have h : j = 0 ∨ j = 1 ∨ j = 2 ∨ j = 3 ∨ j = 4 ∨ j = 5 ∨ j = 6 ∨ j = 7 := by omega
  rcases h with rfl | rfl | rfl | rfl | rfl | rfl | rfl | rfl <;> decide

theorem pwN_small (j : Nat) : pwN j ≤ 72057594037927936 := Nat.div_le_self _ _

theorem wideR_take (N j : Nat) (h : j < 8) : (wideR N 8).take (j + 1) = (wideR N 8).take j ++ [UInt8.ofNat (N / pwN j % 256)] := by
  have h : j = 0 ∨ j = 1 ∨ j = 2 ∨ j = 3 ∨ j = 4 ∨ j = 5 ∨ j = 6 ∨ j = 7 := by omega
  rcases h with rfl | rfl | rfl | rfl | rfl | rfl | rfl | rfl <;> simp [wideR, wideL, pwN, List.range_succ]

theorem bytes4 (X : Nat) (h : X < 4294967296) : ∃ d0 d1 d2 d3 : Nat, (X : Int) / 16777216 = (d0 : Int) ∧ ((X : Int) / 65536).tmod 256 = (d1 : Int) ∧ (X : Int) / 65536 % 256 = (d1 : Int) ∧ ((X : Int) / 256).tmod 256 = (d2 : Int) ∧ (X : Int) / 256 % 256 = (d2 : Int) ∧ (X : Int).tmod 256 = (d3 : Int) ∧ (X : Int) % 256 = (d3 : Int) ∧
    d0 < 256 ∧ d1 < 256 ∧ d2 < 256 ∧ d3 < 256 ∧ wideR X 4 = [UInt8.ofNat d0, UInt8.ofNat d1, UInt8.ofNat d2, UInt8.ofNat d3] := by
  refine ⟨X / 16777216, X / 65536 % 256, X / 256 % 256, X % 256, by omega, ?_, by omega, ?_, by omega, ?_, by omega, by omega, by omega, by omega, by omega, ?_⟩
  · rw [Int.tmod_eq_emod_of_nonneg (by omega)]; omega
  · rw [Int.tmod_eq_emod_of_nonneg (by omega)]; omega
  · rw [Int.tmod_eq_emod_of_nonneg (by omega)]; omega
  · have e : X / 16777216 % 256 = X / 16777216 := by omega
    simp [wideR, wideL, List.range_succ, e]

theorem cells4 {d0 d1 d2 d3 : Nat} (h0 : d0 < 256) (h1 : d1 < 256) (h2 : d2 < 256) (h3 : d3 < 256) : Lib.byteCells [UInt8.ofNat d0, UInt8.ofNat d1, UInt8.ofNat d2, UInt8.ofNat d3] = [.int .u8 (d0 : Int), .int .u8 (d1 : Int), .int .u8 (d2 : Int), .int .u8 (d3 : Int)] := by
  show [Value.int .u8 (((UInt8.ofNat d0).toNat : Nat) : Int), .int .u8 (((UInt8.ofNat d1).toNat : Nat) : Int), .int .u8 (((UInt8.ofNat d2).toNat : Nat) : Int), .int .u8 (((UInt8.ofNat d3).toNat : Nat) : Int)] = _
  rw [UInt8.toNat_ofNat_of_lt' h0, UInt8.toNat_ofNat_of_lt' h1, UInt8.toNat_ofNat_of_lt' h2, UInt8.toNat_ofNat_of_lt' h3]

set_option maxRecDepth 100000 in
set_option maxHeartbeats 1000000 in
theorem refSum_any (s : ByteArray) (w : World) (hs : s.size < 1099511627776) :
    Calls Tryz.prog 19 #[.string s] w fun e w' => e = .returned (.string ⟨(shaL s.data.toList).toArray⟩) ∧ Below w.heap.size w w' := by
  obtain ⟨i0, hi, hz0, hz1, hz2⟩ := info_parts infoByte
  have hcv := run_bytes_of_string (P := Tryz.prog) w 9 63 5 s Tryz.underlying9 Tryz.underlying63 Tryz.underlying5
  have HO := Lib.hid (OwnB.conv w w.heap.size s (Nat.le_refl _) (by unfold maxLen; omega))
  have HB := Lib.hid (show Below w.heap.size w (w.drew.alloc (.cells (bytesRow s (grownCap w s.size 0 5)) 5 ((bytesRow s (grownCap w s.size 0 5)).size, (bytesRow s (grownCap w s.size 0 5)).size + 1))) from ((Below.refl w.heap.size w).drew).alloc (Nat.le_refl _) _)
  generalize w.drew.alloc (.cells (bytesRow s (grownCap w s.size 0 5)) 5 ((bytesRow s (grownCap w s.size 0 5)).size, (bytesRow s (grownCap w s.size 0 5)).size + 1)) = w1 at hcv HO HB
  generalize grownCap w s.size 0 5 = cp at hcv HO
  obtain ⟨l, hl⟩ : ∃ l, s.data.toList = l := ⟨_, rfl⟩
  have hll : l.length = s.size := by rw [← hl]; simp
  rw [hl] at HO ⊢
  clear hl
  obtain ⟨B, hBw⟩ : ∃ B, w.heap.size = B := ⟨_, rfl⟩
  rw [hBw] at hcv HO HB ⊢
  go_enter Tryz.func19, Tryz.ntmps19
  have hw1 : B ≤ w1.heap.size := by have := HB.out.size; omega
  have hl0 : (fillL l 0) = l ++ [128] := rfl
  go_wp2_with (at_builtin; refine wpList_append_B _ rfl _ _ rfl B B cp l s.size rfl hll (HO.out.alloc _) ⟨w1.heap.size, 0, none⟩ 1 128 rfl ?c1 ?c2 ?c3 ?_)
  case c1 => rw [addr0_add, World.cell?_alloc_at _ _ _ _ rfl]; rfl
  case c2 => omega
  case c3 => simp; omega
  intro g2 c2 w2 ho2 hb2
  have HO2 := Lib.hid (show OwnB w2 B g2 c2 (fillL l 0) from ho2)
  have HB2 := Lib.hid ((HB.out.alloc hw1 _).trans hb2)
  clear ho2 hb2 HO HB hcv
  go_wp2_with fail
  go_loopw [3] (fun bv wr => ∃ z g c : Nat, z ≤ padN l.length ∧ bv = .slice (some ⟨g, 0, none⟩) (s.size + 1 + z) c ∧ OwnB wr B g c (fillL l z) ∧ Below B w wr) (fun bv _ => s.size + 1 + 64 - lenOfV bv)
  case atStart => exact ⟨0, g2, c2, Nat.zero_le _, rfl, HO2.out, HB2.out⟩
  case round =>
    clear HO2 HB2
    obtain ⟨z, g, c, hz, rfl, ho, hb⟩ := hrel
    have hp : padN l.length < 64 := Nat.mod_lt _ (by decide)
    have hp2 : (s.size + 1 + padN l.length) % 64 = 56 := by rw [← hll]; unfold padN; omega
    have HP2 := Lib.hid hp2
    have HPN := Lib.hid (show fillL l (padN l.length) ++ wideR (8 * l.length) 8 = padL l from rfl)
    have HFS := Lib.hid (fillL_succ l z)
    have hfl := fillL_length l z
    have HO := Lib.hid ho
    have HB := Lib.hid hb
    have hbs : B ≤ wr.heap.size := by have := hb.size; omega
    clear ho hb hp2
    generalize padN l.length = pn at hz hp HP2 HPN
    by_cases hlt2 : z < pn
    · have t1 : ((((s.size + 1 + z : Nat) : Int) % 64) != 56) = true := by rw [bne_iff_ne]; have := HP2.out; omega
      go_wp2_with (at_builtin; refine wpList_append_B _ rfl _ _ rfl B g c (fillL l z) (s.size + 1 + z) rfl (by omega) (HO.out.alloc _) ⟨wr.heap.size, 0, none⟩ 1 0 rfl ?c1 ?c2 ?c3 ?_)
      case c1 => rw [addr0_add, World.cell?_alloc_at _ _ _ _ rfl]; rfl
      case c2 => omega
      case c3 => simp; omega
      intro g3 c3 w3 ho3 hb3
      have HO3 := Lib.hid (show OwnB w3 B g3 c3 (fillL l (z + 1)) by rw [HFS.out]; exact ho3)
      have HB3 := Lib.hid ((HB.out.alloc hbs _).trans hb3)
      clear ho3 hb3 HO HB t1
      go_wp2_with fail
      go_roundw
      case rel => exact ⟨z + 1, g3, c3, by omega, rfl, HO3.out, HB3.out⟩
      case measure => simp [lenOfV]; omega
    · have hzp : pn ≤ z := by omega
      have t1 : ((((s.size + 1 + z : Nat) : Int) % 64) != 56) = false := by rw [bne_eq_false_iff_eq]; have := HP2.out; have : z = pn := by omega
                                                                            omega
      obtain rfl : z = pn := by omega
      clear HP2
      obtain ⟨F, hF⟩ : ∃ F, fillL l z = F := ⟨_, rfl⟩
      have hFl : F.length = s.size + 1 + z := by rw [← hF]; omega
      rw [hF] at HO HPN
      clear hF HFS hfl hlt2
      obtain ⟨WR, hWR⟩ : ∃ WR, wideR (8 * l.length) 8 = WR := ⟨_, rfl⟩
      have hWl : WR.length = 8 := by rw [← hWR, wideR_length]
      have HWT := Lib.hid (show ∀ j, j < 8 → WR.take (j + 1) = WR.take j ++ [UInt8.ofNat (8 * s.size / pwN j % 256)] from fun j hj => by rw [← hWR, ← hll]; exact wideR_take (8 * l.length) j hj)
      rw [hWR] at HPN
      clear hWR
      go_wp2_with fail
      rw [show ((((s.size : Int) + 1 + (z : Int)) % 64) != 56) = false by have := t1; simpa using this]
      go_loopw [3, 5, 6] (fun bv pv iv wr => ∃ j g c : Nat, j ≤ 8 ∧ iv = .int .i64 j ∧ pv = .int .u64 ((pwN j : Nat) : Int) ∧ bv = .slice (some ⟨g, 0, none⟩) (s.size + 1 + z + j) c ∧ OwnB wr B g c (F ++ WR.take j) ∧ Below B w wr) (fun _ _ i _ => 8 - (intOf i).toNat)
      case atStart => exact ⟨0, g, c, Nat.zero_le _, rfl, rfl, rfl, by simpa using HO.out, HB.out⟩
      case round =>
        clear HO HB hbs hzp t1
        obtain ⟨j, g, c, hj, rfl, rfl, rfl, ho, hb⟩ := hrel
        have hbs : B ≤ wr.heap.size := by have := hb.size; omega
        have HO := Lib.hid ho
        have HB := Lib.hid hb
        clear ho hb
        by_cases hlt8 : j < 8
        · have hpp := pwN_pos j hlt8
          have hps := pwN_small j
          have HT := Lib.hid (HWT.out j hlt8)
          have HS := Lib.hid (pwN_succ j)
          generalize pwN j = pj at hpp hps HT HS
          have hjl : (F ++ WR.take j).length = s.size + 1 + z + j := by
            rw [List.length_append, List.length_take, hWl, hFl, Nat.min_eq_left (by omega)]
          obtain ⟨d, hd, hd256, hde⟩ : ∃ d : Nat, ((s.size : Int) * 8 / (pj : Int)).tmod 256 = (d : Int) ∧ d < 256 ∧ d = 8 * s.size / pj % 256 := by
            refine ⟨8 * s.size / pj % 256, ?_, Nat.mod_lt _ (by decide), rfl⟩
            rw [show (s.size : Int) * 8 = ((8 * s.size : Nat) : Int) by omega, ← Int.natCast_ediv, Int.tmod_eq_emod_of_nonneg (Int.natCast_nonneg _)]
            rfl
          rw [← hde] at HT
          have HDE := Lib.hid hde
          have hu : (((UInt8.ofNat d).toNat : Nat) : Int) = (d : Int) := by rw [UInt8.toNat_ofNat_of_lt' (show d < 256 from hd256)]
          have HU := Lib.hid hu
          clear hde hu
          go_wp2_with (at_builtin; refine wpList_append_B _ rfl _ _ rfl B g c (F ++ WR.take j) (s.size + 1 + z + j) rfl hjl (HO.out.alloc _) ⟨wr.heap.size, 0, none⟩ 1 (UInt8.ofNat d) rfl ?c1 ?c2 ?c3 ?_)
          case c1 => rw [addr0_add, World.cell?_alloc_at _ _ _ _ rfl, HU.out]; rfl
          case c2 => omega
          case c3 => simp; omega
          intro g3 c3 w3 ho3 hb3
          have HO3 := Lib.hid (show OwnB w3 B g3 c3 (F ++ WR.take (j + 1)) by rw [HT.out]; exact ho3)
          have HB3 := Lib.hid ((HB.out.alloc hbs _).trans hb3)
          clear ho3 hb3 HO HB hd
          go_wp2_with fail
          go_roundw
          case rel => exact ⟨j + 1, g3, c3, by omega, by go_num, by rw [HS.out]; go_num, rfl, HO3.out, HB3.out⟩
          case measure => simp [intOf]; omega
        · have hj8 : 8 ≤ j := by omega
          have HOP := Lib.hid (show OwnB wr B g c (padL l) by
            obtain rfl : j = 8 := by omega
            have := HO.out
            rwa [List.take_of_length_le (by omega), HPN.out] at this)
          have hP : (padL l).length = s.size + 1 + z + j := by rw [← HPN.out, List.length_append, hWl, hFl]; omega
          have hPW := padL_whole l
          obtain ⟨M, hM⟩ : ∃ M, padL l = M := ⟨_, rfl⟩
          have HSHA := Lib.hid (show shaL l = outS (chain M (M.length / 64)) by rw [← hM]; rfl)
          rw [hM] at HOP hP hPW
          obtain ⟨L, hL⟩ : ∃ L, s.size + 1 + z + j = L := ⟨_, rfl⟩
          have hL64 : L < 4398046511104 := by omega
          clear HO hM HPN hFl hz hp
          generalize hQJ : pwN j = pz
          clear hQJ hWl HWT
          go_wp2_with fail
          rw [show decide ((j : Int) < 8) = false from decide_eq_false (by omega)]
          refine (first_ref _).mono ?_
          rintro e w2 ⟨⟨gh, rfl, hrh, hgh⟩, hb2⟩
          have HOP2 := Lib.hid (HOP.out.kept hb2 HOP.out.lt)
          have HB2 := Lib.hid (HB.out.trans (hb2.mono hbs))
          have HRH := Lib.hid hrh
          have hbs2 : B ≤ w2.heap.size := by have := hb2.size; omega
          clear hb2 hrh HOP HB
          go_wp2_with fail
          refine (keys_ref _).mono ?_
          rintro e w3 ⟨⟨gk, rfl, hrk, hgk⟩, hb3⟩
          have HOP3 := Lib.hid (HOP2.out.kept hb3 HOP2.out.lt)
          have HB3 := Lib.hid (HB2.out.trans (hb3.mono hbs2))
          have HRH3 := Lib.hid (HRH.out.keep HRH.out.1 hb3)
          have HRK := Lib.hid hrk
          have hbs3 : B ≤ w3.heap.size := by have := hb3.size; omega
          clear hb3 hrk HOP2 HB2 HRH
          go_wp2_with fail
          have hML : M.length = L := by omega
          have hroom : L ≤ c := by have := HOP3.out.room; omega
          have hcm : c ≤ 9223372036854775807 := by have := HOP3.out.small; unfold maxLen at this; omega
          have HQ := Lib.hid (show M.length / 64 * 64 = L by omega)
          obtain ⟨Q, hQ⟩ : ∃ Q, M.length / 64 = Q := ⟨_, rfl⟩
          rw [hQ] at HSHA HQ
          have hQ64 : Q * 64 = L := HQ.out
          clear hP hPW HQ hL hQ
          go_loopw [7, 9] (fun hv av wr => ∃ k a gh ch : Nat, a = 64 * k ∧ k ≤ Q ∧ av = .int .i64 a ∧ hv = .slice (some ⟨gh, 0, none⟩) 8 ch ∧ RowU wr gh (chain M k).toL ∧ OwnB wr B g c M ∧ RowU wr gk keysL ∧ Below B w wr) (fun _ i _ => L - (intOf i).toNat)
          case atStart => exact ⟨0, 0, gh, 8, rfl, Nat.zero_le _, rfl, rfl, HRH3.out, HOP3.out, HRK.out, HB3.out⟩
          case round =>
            clear HRH3 HOP3 HRK HB3 hbs3 hbs2 hgh hgk hbs
            obtain ⟨k, a, gh, ch, ha, hk, rfl, rfl, hrh, ho, hrk, hb⟩ := hrel
            have hbs : B ≤ wr.heap.size := by have := hb.size; omega
            by_cases hlt9 : a < L
            · have hal : a + 64 ≤ L := by omega
              have hac : a + 64 ≤ c := by omega
              obtain ⟨T, hT⟩ : ∃ T, (M.drop (64 * k)).take 64 = T := ⟨_, rfl⟩
              have hTl : T.length = 64 := by rw [← hT, List.length_take, List.length_drop]; omega
              have hcv := run_convert_bytes_back (P := Tryz.prog) wr 63 9 5 ⟨g, a, none⟩ (c - a) T Tryz.underlying63 Tryz.underlying5 Tryz.underlying9 (fun i hi => by
                have h1 := ho.cell (a + i) (by omega)
                have e : (⟨g, a, none⟩ : Addr).add i = ⟨g, a + i, none⟩ := by unfold Addr.add; split <;> simp_all
                rw [e, h1]
                congr 2
                subst ha
                simp [← hT])
              rw [hTl] at hcv
              have HCH := Lib.hid (show blockS (chain M k) T = chain M (k + 1) by rw [chain_succ, hT])
              have BL := Lib.hid (block_any (chain M k) gh ch gk 64 ⟨T.toArray⟩ wr (chain_ok M k) hrh hrk (by show T.toArray.size = 64; simpa using hTl))
              obtain ⟨tb, htb⟩ : ∃ tb : ByteArray, (⟨T.toArray⟩ : ByteArray) = tb := ⟨_, rfl⟩
              have HTB := Lib.hid (show tb.data.toList = T by rw [← htb])
              rw [htb] at hcv BL
              rw [HTB.out, HCH.out] at BL
              have HO := Lib.hid ho
              have HK := Lib.hid hrk
              have HB := Lib.hid hb
              have hgkl : gk < wr.heap.size := hrk.1
              have HA := Lib.hid ha
              have hkQ : k + 1 ≤ Q := by omega
              clear hT htb hrh ho hrk hb HCH HTB ha
              go_wp2_with fail
              refine BL.out.mono ?_
              rintro e w4 ⟨⟨gh4, ch4, rfl, hr4, hg4⟩, hb4⟩
              have HR4 := Lib.hid hr4
              have HO4 := Lib.hid (HO.out.kept hb4 HO.out.lt)
              have HK4 := Lib.hid (HK.out.keep hgkl hb4)
              have HB4 := Lib.hid (HB.out.trans (hb4.mono hbs))
              clear hr4 hb4 BL HO HK HB hcv
              go_wp2_with fail
              go_roundw
              case rel => exact ⟨k + 1, a + 64, gh4, ch4, by have := HA.out; omega, hkQ, by go_num, rfl, HR4.out, HO4.out, HK4.out, HB4.out⟩
              case measure => simp [intOf]; omega
            · have hLa : L ≤ a := by omega
              have HR := Lib.hid (show RowU wr gh (chain M Q).toL by
                obtain rfl : k = Q := by omega
                exact hrh)
              have HB := Lib.hid hb
              have okst := Lib.hid (chain_ok M Q)
              have HOUT := Lib.hid (show (⟨(shaL l).toArray⟩ : ByteArray) = ⟨(outN (chain M Q).toL 8).toArray⟩ by rw [HSHA.out]; rfl)
              clear hrh ho hrk hb HSHA ha
              generalize chain M Q = st at HR okst HOUT
              have HOK := Lib.hid (show ∀ k, k < 8 → U32 (st.toL.getD k 0) from fun k hk => by
                have o := okst.out
                have h : k = 0 ∨ k = 1 ∨ k = 2 ∨ k = 3 ∨ k = 4 ∨ k = 5 ∨ k = 6 ∨ k = 7 := by omega
                rcases h with rfl | rfl | rfl | rfl | rfl | rfl | rfl | rfl
                · exact o.a
                · exact o.b
                · exact o.c
                · exact o.d
                · exact o.e
                · exact o.f
                · exact o.g
                · exact o.h)
              obtain ⟨wo, rfl⟩ : ∃ wo : World, wo = wr := ⟨_, rfl⟩
              go_wp2_with fail
              go_loopw [10, 63] (fun v i wr => ∃ k : Nat, k ≤ 8 ∧ i = .int .i64 k ∧ (∃ g c, v = .slice (some ⟨g, 0, none⟩) (4 * k) c ∧ wo.heap.size ≤ g) ∧ wr.ownsRow wo.heap.size 5 1 v (4 * k) (Lib.byteCells (outN st.toL k)) ∧ Below wo.heap.size wo wr) (fun _ i _ => 8 - (intOf i).toNat)
              case atStart => exact ⟨0, Nat.zero_le _, rfl, ⟨_, _, rfl, Nat.le_refl _⟩, World.ownsRow_lit wo #[] 0 (Nat.le_refl _) (Nat.zero_le _) rfl, (Below.refl _ _).alloc (Nat.le_refl _) _⟩
              case round =>
                obtain ⟨q, hq, rfl, ⟨g6, c6, rfl, hg6⟩, ho6, hb6⟩ := hrel
                have hbs6 := hb6.size
                by_cases hlt8 : q < 8
                · have ch1 := (HR.out.keep HR.out.1 hb6).2 q (by show q < 8; exact hlt8)
                  obtain ⟨x0, x1⟩ := HOK.out q hlt8
                  have HS := Lib.hid (outN_succ st.toL q (by show q < 8; exact hlt8))
                  obtain ⟨X, hX⟩ := Int.eq_ofNat_of_zero_le x0
                  rw [hX] at ch1 HS x1
                  rw [Int.toNat_natCast] at HS
                  have x2 : X < 4294967296 := by omega
                  clear x0 x1 hX
                  obtain ⟨d0, d1, d2, d3, e0, e1, f1, e2, f2, e3, f3, l0, l1, l2, l3, hw⟩ := bytes4 X x2
                  rw [hw] at HS
                  have HO6 := Lib.hid ho6
                  have HB6 := Lib.hid hb6
                  clear ho6 hb6 hw
                  go_wp2_with (at_builtin; refine wpList_append_own _ rfl _ _ 63 rfl wo.heap.size 5 i0 (.int .u8 0) 1 1 Tryz.underlying63 hi hz0 hz1 hz2 rfl (by decide) _ (4 * q) (Lib.byteCells (outN st.toL q)) rfl (HO6.out.alloc _) ⟨wr.heap.size, 0, none⟩ 4 4 [.int .u8 (d0 : Int), .int .u8 (d1 : Int), .int .u8 (d2 : Int), .int .u8 (d3 : Int)] rfl rfl ?c1 ?c2 ?c3 ?c4 ?c5 ?_)
                  case c1 =>
                    intro i u hi'
                    match i, hi' with
                    | 0, hi' => simp at hi'; subst hi'; rw [addr0_add, World.cell?_alloc_at _ _ _ _ rfl]; rfl
                    | 1, hi' => simp at hi'; subst hi'; rw [addr0_add, World.cell?_alloc_at _ _ _ _ rfl]; rfl
                    | 2, hi' => simp at hi'; subst hi'; rw [addr0_add, World.cell?_alloc_at _ _ _ _ rfl]; rfl
                    | 3, hi' => simp at hi'; subst hi'; rw [addr0_add, World.cell?_alloc_at _ _ _ _ rfl]; rfl
                    | i + 4, hi' => simp at hi'
                  case c2 => intro u hu; simp at hu; rcases hu with rfl | rfl | rfl | rfl <;> rfl
                  case c3 => unfold maxLen; omega
                  case c4 => omega
                  case c5 => simp; omega
                  intro v' w3 hown3 hgrow3 _
                  have hbb3 := (HB6.out.alloc hbs6 _).grown hgrow3 (by simp; omega) (fun k hk => by cases hk; exact hg6)
                  have hv' : ∃ g c, v' = .slice (some ⟨g, 0, none⟩) (4 * (q + 1)) c ∧ wo.heap.size ≤ g := by
                    rcases hown3.2 with ⟨_, h0⟩ | ⟨g, c', cur, hv, _⟩
                    · omega
                    · exact ⟨_, _, hv, (hown3.lt g (by rw [hv]; rfl)).1⟩
                  obtain ⟨g', c', rfl, hg'⟩ := hv'
                  have HO7 := Lib.hid (show w3.ownsRow wo.heap.size 5 1 (.slice (some ⟨g', 0, none⟩) (4 * (q + 1)) c') (4 * (q + 1)) (Lib.byteCells (outN st.toL (q + 1))) by
                    rw [HS.out, Lib.byteCells_append, cells4 l0 l1 l2 l3]
                    exact hown3)
                  have HB7 := Lib.hid hbb3
                  clear hown3 hgrow3 hbb3 HO6 HB6 e0 e1 f1 e2 f2 e3 f3
                  go_wp2_with fail
                  go_roundw
                  case rel => exact ⟨q + 1, by omega, by go_num, ⟨_, _, rfl, hg'⟩, HO7.out, HB7.out⟩
                  case measure => simp [intOf]; omega
                · have hq8 := Lib.hid (show q = 8 by omega)
                  have hq8' : 8 ≤ q := by omega
                  have hlen := outN_length st.toL q hq
                  have hcv := run_convert_bytes_back (P := Tryz.prog) wr 63 9 5 ⟨g6, 0, none⟩ c6 (outN st.toL q) Tryz.underlying63 Tryz.underlying5 Tryz.underlying9 (fun i hi => by
                    rw [hlen] at hi
                    have := ho6.cellAt i (by omega)
                    rw [addr0_add, this, List.getElem?_eq_getElem (by rw [Lib.byteCells_length, hlen]; exact hi)]
                    simp [Lib.byteCells])
                  rw [hlen] at hcv
                  have HBF := Lib.hid (HB.out.trans (hb6.mono hbs))
                  clear ho6 hb6 hlen
                  go_wp2_with fail
                  go_ret
                  exact ⟨by rw [HOUT.out, ← hq8.out]; rfl, HBF.out⟩
end Go.Proofs.YtepcaglekgeamaaGreatDoor
