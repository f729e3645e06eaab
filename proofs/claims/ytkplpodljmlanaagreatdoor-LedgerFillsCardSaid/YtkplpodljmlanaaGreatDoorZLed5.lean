/-
  Plain facts for LedgerOther: what stands in the half that is not told does not count. Conditions: none.
-/
import Derived.Test.YtkplpodljmlanaaGreatDoorZLed3
/-! Plain facts for LedgerOther: what stands in the half that is not told does not count. Conditions: none. -/
namespace Go.Proofs.YtkplpodljmlanaaGreatDoor
open Go.RowKit Go.WideShapes

theorem clamp6 (s : Int) : ∃ (mx : Int) (n : Nat), max s 6 = mx ∧ min mx 64 = (n : Int) ∧ 6 ≤ n ∧ n ≤ 64 :=
  ⟨max s 6, (min (max s 6) 64).toNat, rfl, by omega, by omega, by omega⟩
/-- A place in the other half's room out of any number, as the law makes it. -/
theorem other_place (a : Int) (h : Nat) (h3 : 3 ≤ h) : ∃ (r : Int) (x : Nat), a.tmod ((h : Int) - 1) = r ∧ (r + (h : Int) - 1).tmod ((h : Int) - 1) = (x : Int) ∧ x + 1 < h ∧ -(h : Int) < r ∧ r < (h : Int) := by
  obtain ⟨m, hm⟩ : ∃ m : Int, (h : Int) - 1 = m := ⟨_, rfl⟩
  have hp : 0 < m := by omega
  have b1 := Int.tmod_lt_of_pos a hp
  have b0 : -m < a.tmod m := by
    rcases Int.le_total 0 a with h | h
    · have := Int.tmod_nonneg m h; omega
    · have e : a.tmod m = -((-a).tmod m) := by rw [Int.neg_tmod, Int.neg_neg]
      have := Int.tmod_lt_of_pos (-a) hp
      rw [e]; omega
  obtain ⟨r, hr⟩ : ∃ r, a.tmod m = r := ⟨_, rfl⟩
  rw [hr] at b0 b1
  have c0 : 0 ≤ r + (h : Int) - 1 := by omega
  have d0 := Int.tmod_nonneg m c0
  have d1 := Int.tmod_lt_of_pos (r + (h : Int) - 1) hp
  rw [hm]
  exact ⟨r, ((r + (h : Int) - 1).tmod m).toNat, hr, by omega, by omega, by omega, by omega⟩

def putD (d : Dsk) (k : Nat) (x : ByteArray) : Dsk := clean d.secs.length fun j => if (k : Int) = (j : Int) then x else d.secs.getD j ⟨#[]⟩
theorem putD_len (d : Dsk) (k : Nat) (x : ByteArray) : (putD d k x).secs.length = d.secs.length := clean_length _ _
theorem put_flush {d : Dsk} (h : RightIs d) (hd : d.dirty = []) {k : Nat} (hk : k < d.secs.length) {x : ByteArray} (hx : x.size = 128) :
    saveD d [((k : Int), x)] = (⟨d.secs, [((k : Int), x)]⟩, 0) ∧ flushD ⟨d.secs, [((k : Int), x)]⟩ = (putD d k x, 0) := by
  have h1 : wellB d.secs.length [((k : Int), x)] = true := (well_iff _ _).2 fun w hw => by
    rw [List.mem_singleton.1 hw]
    exact ⟨by simp only; omega, by simp only; omega, hx⟩
  refine ⟨saveD_of h hd h1 (by simp), ?_⟩
  rw [flushD_ok (saved_right h h1 (by simp))]
  rfl
theorem put_opens {d : Dsk} {g u : Nat} {es : List ByteArray} (h : Opens d 0 g u es) {k : Nat} (h1 : hOf d < k) (h2 : k < 2 * hOf d) {x : ByteArray} (hx : x.size = 128) : Opens (putD d k x) 0 g u es := by
  have K : Kept d (putD d k x) 1 0 := by
    refine ⟨clean_right h.right.least h.right.most fun i hi => ?_, rfl, putD_len .., fun j hj ho => ?_, fun i _ j _ hlt => absurd hlt (by omega)⟩
    · by_cases e : (k : Int) = (i : Int)
      · rw [if_pos e]; exact hx
      · rw [if_neg e]; exact sec_size h.right hi
    · unfold putD
      rw [sec_clean hj, if_neg (by omega)]
      rfl
  exact K.opens h (Nat.le_refl 1) fun e => by omega
/-- Renewed, two ledgers of one size come to the same. -/
theorem renew_like {d d' : Dsk} {g u : Nat} {es : List ByteArray} (h : Opens d 0 g u es) (h' : Opens d' 0 g u es) (hl : d'.secs.length = d.secs.length) (ss : List ByteArray) :
    (∃ e : Int, (e = 2 ∨ e = 13) ∧ addL ⟨d, (0 : Nat), g, u, es⟩ true ss = (nilLed, e) ∧ addL ⟨d', (0 : Nat), g, u, es⟩ true ss = (nilLed, e)) ∨
    ∃ l l' : Led, addL ⟨d, (0 : Nat), g, u, es⟩ true ss = (l, 0) ∧ addL ⟨d', (0 : Nat), g, u, es⟩ true ss = (l', 0) ∧ l'.ents = l.ents ∧ l'.used = l.used ∧ l.disk.dirty = [] ∧ l'.disk.dirty = [] := by
  have hr : roomN d' = roomN d := by unfold roomN hOf; rw [hl]
  have ht : ∀ d : Dsk, thereOf true d 0 u = [] := fun _ => rfl
  have hs : (stepsL ⟨d', (0 : Nat), g, u, es⟩ true ss).2 = (stepsL ⟨d, (0 : Nat), g, u, es⟩ true ss).2 := by
    rw [stepsL_of h, stepsL_of h']
    unfold layL
    rw [hr, ht, ht]
    by_cases hm : mayB ss = true
    · rw [if_pos hm, if_pos hm]
      split
      · rfl
      · rfl
    · rw [if_neg hm, if_neg hm]
  by_cases h0 : (stepsL ⟨d, (0 : Nat), g, u, es⟩ true ss).2 = 0
  · right
    obtain ⟨g1, e1⟩ := addL_ok h h0
    obtain ⟨g2, e2⟩ := addL_ok h' (by rw [hs]; exact h0)
    exact ⟨_, _, e1, e2, rfl, rfl, rfl, rfl⟩
  · left
    rcases addL_no h h0 with ⟨e1, m1⟩ | ⟨e1, m1, -⟩
    · rcases addL_no h' (by rw [hs]; exact h0) with ⟨e2, -⟩ | ⟨-, m2, -⟩
      · exact ⟨2, Or.inl rfl, e1, e2⟩
      · rw [m1] at m2; cases m2
    · rcases addL_no h' (by rw [hs]; exact h0) with ⟨-, m2⟩ | ⟨e2, -⟩
      · rw [m1] at m2; cases m2
      · exact ⟨13, Or.inr rfl, e1, e2⟩
/-- A call's ledger is put into the variable that it came out of. -/
theorem selfI_set {w0 wD : World} {B n0 n1 ne : Nat} {lh lg lu e1 : Int} {l l0 : Led} {p1 p2 p3 : Option Addr} {k1 k2 k3 : Nat} (h0 : LedIn wD B l0) (hd : l.disk.dirty = [])
    (hlD : LedAt wD (.agg #[.slice p1 n0 k1, .slice p2 n1 k2, .int .i64 lh, .int .i64 lg, .int .i64 lu, .slice p3 ne k3]) l) (hbA : Below w0.heap.size w0 wD) (hB : w0.heap.size ≤ B) :
    (Value.int .i64 e1) = .int .i64 e1 ∧ LedIn ((((((wD.setCell ⟨B, 0, none⟩ (.slice p1 n0 k1)).setCell ⟨B, 1, none⟩ (.slice p2 n1 k2)).setCell ⟨B, 2, none⟩ (.int .i64 lh)).setCell ⟨B, 3, none⟩ (.int .i64 lg)).setCell ⟨B, 4, none⟩ (.int .i64 lu)).setCell ⟨B, 5, none⟩ (.slice p3 ne k3)) B l ∧ Below w0.heap.size w0 ((((((wD.setCell ⟨B, 0, none⟩ (.slice p1 n0 k1)).setCell ⟨B, 1, none⟩ (.slice p2 n1 k2)).setCell ⟨B, 2, none⟩ (.int .i64 lh)).setCell ⟨B, 3, none⟩ (.int .i64 lg)).setCell ⟨B, 4, none⟩ (.int .i64 lu)).setCell ⟨B, 5, none⟩ (.slice p3 ne k3)) :=
  ⟨rfl, h0.set hlD hd, set6_below hbA hB _ _ _ _ _ _⟩

/-! ### Rows of one byte -/
theorem bytes_zero (c : UInt8) : (madeCells (Value.int IntKind.u8 0).cells (128 * 1)).toList = Lib.byteCells (List.replicate 0 c ++ List.replicate (128 - 0) 0) := by
  show (madeCells #[Value.int IntKind.u8 0] 128).toList = _
  rw [toList_madeCells_one]; simp [Lib.byteCells]
theorem bytes_set (c : UInt8) (j : Nat) (h : j < 128) : (Lib.byteCells (List.replicate j c ++ List.replicate (128 - j) 0)).set j (.int .u8 (c.toNat : Int)) = Lib.byteCells (List.replicate (j + 1) c ++ List.replicate (128 - (j + 1)) 0) := by
  rw [show 128 - j = (128 - (j + 1)) + 1 by omega, List.replicate_succ, Lib.byteCells_append, Lib.byteCells_append]
  rw [List.set_append_right _ _ (by rw [Lib.byteCells_length, List.length_replicate]; exact Nat.le_refl _), Lib.byteCells_length, List.length_replicate, Nat.sub_self]
  rw [List.replicate_succ', Lib.byteCells_append, List.append_assoc]
  simp [Lib.byteCells]
end Go.Proofs.YtkplpodljmlanaaGreatDoor
