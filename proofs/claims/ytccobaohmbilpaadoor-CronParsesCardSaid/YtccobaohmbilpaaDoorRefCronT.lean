/-
  The document's own tick of a time, by a contract. Conditions: a time whose parts may be, of a year up to 3000000.
-/
import Derived.Test.YtccobaohmbilpaaDoorRefCronD
namespace Go.Proofs.YtccobaohmbilpaaDoor
open Go.RowKit

/-- A time as a value. -/
def clkV (c : Clk) : Value := .agg #[.int .i64 c.minute, .int .i64 c.hour, .int .i64 c.day, .int .i64 c.month, .int .i64 c.year, .int .i64 c.week]
/-- Six cells lie at block B. -/
def Clk6 (w : World) (B : Nat) (c : Clk) : Prop := w.heap[B]? = some (.cells #[.int .i64 c.minute, .int .i64 c.hour, .int .i64 c.day, .int .i64 c.month, .int .i64 c.year, .int .i64 c.week] 33 (0, 0))
theorem Clk6.keep {w w' : World} {B : Nat} {c : Clk} (h : Clk6 w B c) (hb : Below w.heap.size w w') : Clk6 w' B c := (hb.block B (Array.getElem?_eq_some_iff.1 h).1).trans h
theorem Clk6.cells {w : World} {B : Nat} {c : Clk} (h : Clk6 w B c) : w.cell? ⟨B, 0, none⟩ = some (.int .i64 c.minute) ∧ w.cell? ⟨B, 1, none⟩ = some (.int .i64 c.hour) ∧ w.cell? ⟨B, 2, none⟩ = some (.int .i64 c.day) ∧ w.cell? ⟨B, 3, none⟩ = some (.int .i64 c.month) ∧ w.cell? ⟨B, 4, none⟩ = some (.int .i64 c.year) ∧ w.cell? ⟨B, 5, none⟩ = some (.int .i64 c.week) := by
  unfold Clk6 at h
  simp [World.cell?, h]
theorem Clk6.new (w : World) (c : Clk) : Clk6 (w.alloc (.cells #[.int .i64 c.minute, .int .i64 c.hour, .int .i64 c.day, .int .i64 c.month, .int .i64 c.year, .int .i64 c.week] 33)) w.heap.size c := heap_alloc_new w _

set_option maxRecDepth 100000 in
set_option maxHeartbeats 4000000 in
theorem refTick_t (c : Clk) (w : World) (hc : c.Right) (hy : c.year ≤ 3000000) :
    Calls Tryd.prog 14 #[clkV c] w fun e w' => e = .returned (.int .i64 (c.tick : Nat)) ∧ Below w.heap.size w w' := by
  have H6 := Lib.hid (Clk6.new w c)
  have HB0 := Lib.hid (below_new w (.cells #[.int .i64 c.minute, .int .i64 c.hour, .int .i64 c.day, .int .i64 c.month, .int .i64 c.year, .int .i64 c.week] 33))
  have HO := Lib.hid (show c.tick = 1440 * (aheadY c.year - aheadY 1970 + aheadM c.year c.month + (c.day - 1)) + 60 * c.hour + c.minute from rfl)
  have g1 := hc.minute
  have g2 := hc.hour
  have g3 := hc.day1
  have g4 := hc.day2
  have g5 := hc.month1
  have g6 := hc.month2
  have g7 := hc.year
  have g8 := daysM_le c.month c.year
  have hyy : aheadY c.year = 365 * (c.year - 1) + (c.year - 1) / 4 - (c.year - 1) / 100 + (c.year - 1) / 400 := rfl
  have hge := aheadY_mono (c.year - 1970) 1970 (by decide)
  rw [show 1970 + (c.year - 1970) = c.year by omega] at hge
  have h70 : aheadY 1970 = 719162 := rfl
  rw [h70] at HO hge
  obtain ⟨mi, ho, d, mo, y, we⟩ := c
  simp only at *
  obtain ⟨x, hx⟩ : ∃ x, y = x + 1 := ⟨y - 1, by omega⟩
  have hxx : y - 1 = x := by omega
  rw [hxx] at hyy
  obtain ⟨D, hD⟩ : ∃ D, aheadY y - 719162 = D := ⟨_, rfl⟩
  rw [hD] at HO
  have hDD : 365 * x + x / 4 - x / 100 + x / 400 = D + 719162 := by omega
  clear hyy hge h70 hD hc g8 hxx
  have hDle : D ≤ 1200000000 := by omega
  have q1 : x / 100 ≤ x / 4 := by omega
  have e1 : (y : Int) - 1 = (x : Int) := by omega
  obtain ⟨u4, hu4⟩ : ∃ u, x / 4 = u := ⟨_, rfl⟩
  obtain ⟨u1, hu1⟩ : ∃ u, x / 100 = u := ⟨_, rfl⟩
  obtain ⟨u2, hu2⟩ : ∃ u, x / 400 = u := ⟨_, rfl⟩
  have e4 : (x : Int) / 4 = (u4 : Int) := by omega
  have e5 : (x : Int) / 100 = (u1 : Int) := by omega
  have e6 : (x : Int) / 400 = (u2 : Int) := by omega
  have b4 : u4 ≤ 1000000 := by omega
  have b1 : u1 ≤ u4 := by omega
  have b2 : u2 ≤ 10000 := by omega
  rw [hu4, hu1, hu2] at hDD
  clear hu4 hu1 hu2 q1
  have g9 : d ≤ 31 := by have := (daysM_le mo y).1; omega
  have HDD := Lib.hid hDD
  have G4 := Lib.hid g4
  have HX := Lib.hid hx
  clear hDD g4 hx
  unfold clkV
  go_enter Tryd.func14, Tryd.ntmps14
  go_wp2_with fail
  go_loopw [4, 5] (fun nv mv wr => ∃ m : Nat, 1 ≤ m ∧ m ≤ mo ∧ nv = .int .i64 ((D + aheadM y m : Nat) : Int) ∧ mv = .int .i64 m ∧ Clk6 wr w.heap.size ⟨mi, ho, d, mo, y, we⟩ ∧ Below w.heap.size w wr) (fun _ m _ => mo - (intOf m).toNat)
  case atStart => exact ⟨1, Nat.le_refl _, g5, by rw [aheadM_one]; congr 1; have := HDD.out; have := HX.out; omega, rfl, H6.out, HB0.out⟩
  case round =>
    clear H6 HB0 e1 e4 e5 e6
    obtain ⟨m, hm1, hm2, rfl, rfl, h6, hb⟩ := hrel
    have HB := Lib.hid hb
    have HC := Lib.hid h6
    have HAM := Lib.hid (aheadM_succ y m hm1)
    have ha : aheadM y m ≤ 366 := by
      have h1 := aheadM_mono y (13 - m) m hm1
      rw [show m + (13 - m) = 13 by omega, aheadM_all] at h1
      have h2 : daysY y ≤ 366 := by unfold daysY; split <;> decide
      omega
    obtain ⟨c0, c1, c2, c3, c4, c5⟩ := h6.cells
    obtain ⟨am, ham⟩ : ∃ a, aheadM y m = a := ⟨_, rfl⟩
    have HA := Lib.hid ham
    rw [ham] at ha HAM ⊢
    clear hb h6 ham
    by_cases hlt : m < mo
    · have DD := Lib.hid (fun w1 => refDays_t m y w1 ⟨hm1, by omega⟩ (by omega))
      have hd31 := (daysM_le m y).1
      obtain ⟨dm, hdm⟩ : ∃ a, daysM m y = a := ⟨_, rfl⟩
      rw [hdm] at DD HAM hd31
      clear hdm
      go_wp2_with fail
      refine (DD.out _).mono ?_
      rintro e w1 ⟨rfl, hb1⟩
      have HB1 := Lib.hid (Below.then HB.out hb1)
      have HC1 := Lib.hid (HC.out.keep hb1)
      clear hb1
      go_wp2_with fail
      go_roundw
      case rel => exact ⟨m + 1, by omega, by omega, by rw [HAM.out]; congr 1; omega, by go_num, HC1.out, HB1.out⟩
      case measure => simp [intOf]; omega
    · have hmm : m = mo := by omega
      subst hmm
      have HR := Lib.hid (show (1440 * ((D : Int) + am + d - 1) + 60 * ho + mi : Int) = ((Clk.tick ⟨mi, ho, d, m, y, we⟩ : Nat) : Int) by
        rw [HO.out, HA.out]
        omega)
      go_wp2_with fail
      go_ret
      refine ⟨?_, HB.out⟩
      rw [← HR.out]
      rfl
end Go.Proofs.YtccobaohmbilpaaDoor
