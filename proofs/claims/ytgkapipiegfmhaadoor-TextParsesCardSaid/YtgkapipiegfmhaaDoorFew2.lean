/-
  The laws' own 'few' and 'alive' by contracts. Conditions: what comes in reads as a tree; the package-level variables as TEnv says.
-/
import Derived.Test.YtgkapipiegfmhaaDoorParse3
namespace Go.Proofs.YtgkapipiegfmhaaDoor
open Go.RowKit

/-- The known text, and its value. -/
abbrev knownS : ByteArray := { data := #[123, 34, 97, 34, 58, 91, 49, 44, 34, 120, 34, 93, 125] }
abbrev knownT : Val := .mk 4 0 ⟨#[]⟩ [.mk 3 0 ⟨#[]⟩ [.mk 1 1 ⟨#[]⟩ [] [], .mk 2 0 ⟨#[120]⟩ [] []] []] [⟨#[97]⟩]
theorem known_may : mayV 6 knownT = true := by kernel_rfl
theorem known_text : textL knownT = knownS.data.toList := by kernel_rfl
theorem known_parse : parseV knownS = some knownT := (parseV_iff _ _).2 ⟨known_may, known_text⟩

set_option maxRecDepth 100000 in
theorem alive_t (w : World) (he : TEnv w) :
    Calls Tryd.prog 5 #[] w fun e w' => e = .returned (.bool true) ∧ Below w.heap.size w w' := by
  have C := Lib.hid (Parse_t knownS w he (by decide))
  clear he
  go_enter Tryd.func5, Tryd.ntmps5
  go_wp2_with fail
  refine C.out.mono ?_
  intro e w1 hx
  have hi := hx.is
  have HB := Lib.hid hx.below
  rw [if_neg (by decide), known_parse] at hi
  obtain ⟨v, rfl, hv⟩ := hi
  clear hx
  cases hv with
  | mk kind n s iv nv items names ev hk hn hs hN hz hI hsub =>
  rcases hI with ⟨h0, -⟩ | ⟨pb, po, cap, rfl, -, hcap, hcm, hcs⟩
  · simp at h0
  · have hs0 := hsub 0 (by simp)
    obtain ⟨c0, c1, c2, c3, c4, hev, e0, e1, e2, e3, e4⟩ := hcs 0 (by simp)
    rw [hev] at hs0
    obtain ⟨na, nc, rfl, hnc⟩ := hN.shape
    simp only [List.getElem_cons_zero] at hs0
    cases hs0 with
    | mk kind2 n2 s2 iv2 nv2 items2 names2 ev2 hk2 hn2 hs2 hN2 hz2 hI2 hsub2 =>
    obtain ⟨ia2, ic2, rfl, hic2, hil2⟩ := hI2.shape
    obtain ⟨na2, nc2, rfl, hnc2⟩ := hN2.shape
    simp only [List.length_cons, List.length_nil, Nat.zero_mul, Nat.add_zero, Nat.zero_add] at e0 e1 e2 e3 e4 hcap ⊢
    have B1 := Lib.hid (Below.then HB.out (below_new w1 (.cells #[.int .i64 4, .int .i64 0, .string ⟨#[]⟩, .slice (some ⟨pb, po, none⟩) 1 cap, .slice na 1 nc] 25)))
    have k : ∀ (o : Obj) {p : Addr} {v : Value}, w1.cell? p = some v → (w1.alloc o).cell? p = some v := fun o {p v} h => ((below_new w1 o).cell (World.block_lt_of_cell? _ _ h)).trans h
    have f3 := fun o => k o e3
    have f0 := fun o => k o e0
    have f1 := fun o => k o e1
    have f2 := fun o => k o e2
    have f4 := fun o => k o e4
    clear hsub hsub2 hI2 hN2 hN hz hz2 hcs hev k hk hn hs hk2 hn2 hs2
    go_wp2_with fail
    go_ret
    exact ⟨rfl, B1.out⟩
end Go.Proofs.YtgkapipiegfmhaaDoor
