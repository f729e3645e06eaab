/-
  A number of a schedule as the program reads one, by strconv.Atoi and Itoa: it is as the document says. Conditions: bounds of at most 99. It names nothing of the translation.
-/
import Derived.Test.YtccobaohmbilpaaDoorCronBits
import Derived.Lib.AtoiAllCases
import Derived.Lib.ItoaMem
namespace Go.Proofs.YtccobaohmbilpaaDoor

theorem dec1 {n : Nat} (h : n < 10) : Lib.decDigits n = [UInt8.ofNat (48 + n)] := by rw [Lib.decDigits, dif_pos h]
theorem dec2 {n : Nat} (h1 : ¬ n < 10) (h2 : n < 100) : Lib.decDigits n = [UInt8.ofNat (48 + n / 10), UInt8.ofNat (48 + n % 10)] := by
  rw [Lib.decDigits, dif_neg h1, dec1 (by omega)]; rfl
theorem number_some {l : List UInt8} {low high n : Nat} (h : numberL l 0 99 = some n) (h1 : low ≤ n) (h2 : n ≤ high) : numberL l low high = some n := by
  unfold numberL at h ⊢
  split at h
  · rename_i hc
    obtain rfl := Option.some.inj h
    simp only [Bool.and_eq_true] at hc
    rw [hc.1.1.1.1.1, hc.1.1.1.1.2, hc.1.1.1.2, hc.1.1.2, decide_eq_true h1, decide_eq_true h2]; rfl
  · cases h
theorem number_dec {n low high : Nat} (h : n < 100) (h1 : low ≤ n) (h2 : n ≤ high) : numberL (Lib.decDigits n) low high = some n := by
  refine number_some ?_ h1 h2
  by_cases h3 : n < 10
  · rw [dec1 h3]
    exact (show ∀ n : Fin 10, numberL [UInt8.ofNat (48 + n.val)] 0 99 = some n.val by decide) ⟨n, h3⟩
  · rw [dec2 h3 h]
    have := (show ∀ a b : Fin 10, a.val ≠ 0 → numberL [UInt8.ofNat (48 + a.val), UInt8.ofNat (48 + b.val)] 0 99 = some (10 * a.val + b.val) by decide) ⟨n / 10, by omega⟩ ⟨n % 10, by omega⟩ (by show n / 10 ≠ 0; omega)
    simp only at this
    rw [this]
    congr 1
    omega
theorem atoi_dec {n : Nat} (h : n < 100) : Lib.atoiAll (Lib.decDigits n) = .ok (n : Int) := by
  by_cases h3 : n < 10
  · rw [dec1 h3]
    exact (show ∀ n : Fin 10, Lib.atoiAll [UInt8.ofNat (48 + n.val)] = .ok ((n.val : Nat) : Int) by decide) ⟨n, h3⟩
  · rw [dec2 h3 h]
    have := (show ∀ a b : Fin 10, Lib.atoiAll [UInt8.ofNat (48 + a.val), UInt8.ofNat (48 + b.val)] = .ok ((10 * a.val + b.val : Nat) : Int) by decide) ⟨n / 10, by omega⟩ ⟨n % 10, by omega⟩
    simp only at this
    rw [this]
    congr 1
    omega
theorem number_sound {s : List UInt8} {low high n : Nat} (h : numberL s low high = some n) (hh : high ≤ 99) : s = Lib.decDigits n ∧ n < 100 ∧ low ≤ n ∧ n ≤ high := by
  have hle := numberL_le h
  unfold numberL at h
  split at h
  · rename_i hc
    obtain rfl := Option.some.inj h
    simp only [Bool.and_eq_true, decide_eq_true_eq, Bool.not_eq_true', Bool.and_eq_false_iff, beq_eq_false_iff_ne, decide_eq_false_iff_not] at hc
    obtain ⟨⟨⟨⟨⟨hall, h1⟩, h2⟩, h3⟩, -⟩, -⟩ := hc
    refine ⟨?_, by omega, hle.1, hle.2⟩
    match s, h1, h2, h3, hall with
    | [c], _, _, _, hall =>
      simp [digitB] at hall
      have hv : numV [c] = c.toNat - 48 := by simp [numV]
      rw [hv, dec1 (by omega)]
      congr 1
      rw [← UInt8.toNat_inj, UInt8.toNat_ofNat_of_lt' (by show _ < 256; omega)]
      omega
    | [c, d], _, _, h3, hall =>
      simp [digitB] at hall
      have hv : numV [c, d] = 10 * (c.toNat - 48) + (d.toNat - 48) := by simp [numV]
      have h4 : ¬ numV [c, d] < 10 := by rcases h3 with h3 | h3; exact absurd rfl h3; exact h3
      rw [hv] at h4
      rw [hv, dec2 h4 (by omega)]
      have e1 : UInt8.ofNat (48 + (10 * (c.toNat - 48) + (d.toNat - 48)) / 10) = c := by
        rw [← UInt8.toNat_inj, UInt8.toNat_ofNat_of_lt' (by show _ < 256; omega)]; omega
      have e2 : UInt8.ofNat (48 + (10 * (c.toNat - 48) + (d.toNat - 48)) % 10) = d := by
        rw [← UInt8.toNat_inj, UInt8.toNat_ofNat_of_lt' (by show _ < 256; omega)]; omega
      rw [e1, e2]
  · cases h
/-- What Atoi and Itoa say of a text, against the document's number. -/
theorem number_yes {s : List UInt8} {low high : Nat} {n : Int} (hi : Lib.itoa n = s) (h1 : (low : Int) ≤ n) (h2 : n ≤ (high : Int)) (hh : high ≤ 99) : ∃ m : Nat, n = (m : Int) ∧ numberL s low high = some m := by
  obtain ⟨m, rfl⟩ : ∃ m : Nat, n = (m : Int) := ⟨n.toNat, by omega⟩
  refine ⟨m, rfl, ?_⟩
  rw [← hi, Lib.itoa_nonneg]
  exact number_dec (by omega) (by omega) (by omega)
theorem number_no {s : List UInt8} {low high : Nat} (hh : high ≤ 99) (h : ∀ n : Int, Lib.atoiAll s = .ok n → Lib.itoa n = s → (low : Int) ≤ n → n ≤ (high : Int) → False) : numberL s low high = none := by
  cases hn : numberL s low high with
  | none => rfl
  | some m =>
    obtain ⟨e1, e2, e3, e4⟩ := number_sound hn hh
    refine absurd (h m (by rw [e1]; exact atoi_dec e2) (by rw [Lib.itoa_nonneg]; exact e1.symm) (by omega) (by omega)) (by simp)
end Go.Proofs.YtccobaohmbilpaaDoor
