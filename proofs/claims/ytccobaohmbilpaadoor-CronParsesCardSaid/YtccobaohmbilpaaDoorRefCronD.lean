/-
  The document's own years and months, by contracts. Conditions: years up to 10^12.
-/
import Derived.Test.YtccobaohmbilpaaDoorProg
import Derived.Test.YtccobaohmbilpaaDoorCronPlain
import Derived.WalkKit
import Derived.WalkLawsBesides
import Derived.WalkSpells
import Derived.BigCall
import Derived.Lib.Hide
import Derived.Outline
import Derived.Lib.OthersKept
namespace Go.Proofs.YtccobaohmbilpaaDoor
open Go.RowKit

theorem below_new (w : World) (o : Obj) : Below w.heap.size w (w.alloc o) := (Below.refl _ _).alloc (Nat.le_refl _) _
theorem Below.then {w w1 w2 : World} (h : Below w.heap.size w w1) (h2 : Below w1.heap.size w1 w2) : Below w.heap.size w w2 := h.trans (h2.mono h.size)

set_option maxRecDepth 100000 in
theorem refLong_t (y : Nat) (w : World) (hy : y ≤ 1000000000000) :
    Calls Tryd.prog 24 #[.int .i64 y] w fun e w' => e = .returned (.bool (longY y)) ∧ w = w' := by
  have HO := Lib.hid (show longY y = (y % 4 == 0 && (y % 100 != 0 || y % 400 == 0)) from rfl)
  obtain ⟨a, ha⟩ : ∃ a, y % 4 = a := ⟨_, rfl⟩
  obtain ⟨b, hb⟩ : ∃ b, y % 100 = b := ⟨_, rfl⟩
  obtain ⟨c, hc⟩ : ∃ c, y % 400 = c := ⟨_, rfl⟩
  have ea : (y : Int) % 4 = (a : Int) := by omega
  have eb : (y : Int) % 100 = (b : Int) := by omega
  have ec : (y : Int) % 400 = (c : Int) := by omega
  rw [ha, hb, hc] at HO
  have z : ∀ n : Nat, ((n : Int) == 0) = (n == 0) := fun n => by rw [Bool.eq_iff_iff, beq_iff_eq, beq_iff_eq]; omega
  have za := z a
  have zb : ((b : Int) != 0) = (b != 0) := by rw [bne, z b]; rfl
  have zc := z c
  obtain ⟨p, hp⟩ : ∃ p, (a == 0) = p := ⟨_, rfl⟩
  obtain ⟨q, hq⟩ : ∃ q, (b != 0) = q := ⟨_, rfl⟩
  obtain ⟨r, hr⟩ : ∃ r, (c == 0) = r := ⟨_, rfl⟩
  rw [hp] at za HO
  rw [hq] at zb HO
  rw [hr] at zc HO
  clear ha hb hc hp hq hr z
  cases p with
  | false =>
    go_enter Tryd.func24, Tryd.ntmps24
    go_wp2_with fail
    go_ret
    exact ⟨by rw [HO.out]; rfl, rfl⟩
  | true =>
    cases q with
    | true =>
      go_enter Tryd.func24, Tryd.ntmps24
      go_wp2_with fail
      go_ret
      exact ⟨by rw [HO.out]; rfl, rfl⟩
    | false =>
      go_enter Tryd.func24, Tryd.ntmps24
      go_wp2_with fail
      go_ret
      exact ⟨by rw [HO.out]; rfl, rfl⟩

set_option maxRecDepth 100000 in
set_option maxHeartbeats 2000000 in
theorem refDays_t (m y : Nat) (w : World) (hm : 1 ≤ m ∧ m ≤ 12) (hy : y ≤ 1000000000000) :
    Calls Tryd.prog 13 #[.int .i64 m, .int .i64 y] w fun e w' => e = .returned (.int .i64 (daysM m y : Nat)) ∧ Below w.heap.size w w' := by
  have L := Lib.hid (fun w1 => refLong_t y w1 hy)
  have HB := Lib.hid (fun o => below_new w o)
  by_cases h2 : m = 2
  · subst h2
    have HO := Lib.hid (show daysM 2 y = if longY y then 29 else 28 from rfl)
    obtain ⟨l, hl⟩ : ∃ l, longY y = l := ⟨_, rfl⟩
    rw [hl] at L HO
    clear hl hm
    cases l with
    | true =>
      go_enter Tryd.func13, Tryd.ntmps13
      go_wp2_with fail
      refine (L.out _).mono ?_
      rintro e w1 ⟨rfl, hw1⟩
      subst hw1
      go_wp2_with fail
      go_ret
      exact ⟨by rw [HO.out]; rfl, HB.out _⟩
    | false =>
      go_enter Tryd.func13, Tryd.ntmps13
      go_wp2_with fail
      refine (L.out _).mono ?_
      rintro e w1 ⟨rfl, hw1⟩
      subst hw1
      go_wp2_with fail
      go_ret
      exact ⟨by rw [HO.out]; rfl, HB.out _⟩
  · have hc : m = 1 ∨ m = 3 ∨ m = 4 ∨ m = 5 ∨ m = 6 ∨ m = 7 ∨ m = 8 ∨ m = 9 ∨ m = 10 ∨ m = 11 ∨ m = 12 := by omega
    clear hm h2 L
    rcases hc with rfl | rfl | rfl | rfl | rfl | rfl | rfl | rfl | rfl | rfl | rfl
    all_goals
      go_enter Tryd.func13, Tryd.ntmps13
      go_wp2_with fail
      go_ret
      exact ⟨rfl, HB.out _⟩

end Go.Proofs.YtccobaohmbilpaaDoor
