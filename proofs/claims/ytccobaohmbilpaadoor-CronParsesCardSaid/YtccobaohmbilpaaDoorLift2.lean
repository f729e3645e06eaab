/-
  What every law's card shares: the answer is true, all arguments read as they did; a slice of strings opened. Conditions: none.
-/
import Derived.Test.YtccobaohmbilpaaDoorLiftC
import Derived.Lib.SmallJoins
import Derived.SliceStrings
import Derived.Carry
namespace Go.Proofs.YtccobaohmbilpaaDoor
open Go.ChangeShapes Go.WideShapes Go.ChangeAt Go.RowKit

theorem laidOut : laidOutB Tryd.prog = true := by kernel_rfl

/-- All arguments read behind the call as they did. -/
theorem trodAll_below {H : Type} {enc : TypeId × Value → H} {W W' : World} (hb : Below W.heap.size W W') : ∀ (ts : List TypeId) (vs : List Value) (ds : List (DataW H)) (p : List MemPlace),
    (∀ t ∈ ts, (Tryd.prog.readableRec t && decide (t < Tryd.prog.types.size)) = true) → DataW.TrodAll enc Tryd.prog W 0 (fun _ => true) true ts vs ds p → (∀ x ∈ p, x.block < W.heap.size) →
    DataW.TrodAll enc Tryd.prog W' 0 (fun b => decide (b < W.heap.size)) true ts vs ds p
  | [], vs, ds, p, _, h, _ => by
    cases vs with
    | nil => cases ds with
      | nil => exact h
      | cons d r => exact h
    | cons v r => exact h
  | t :: ts, vs, ds, p, ht, h, hlt => by
    obtain ⟨v, vs0, d, ds0, p0, q0, rfl, rfl, rfl, h0, r0⟩ := trodAll_cons h
    have ht0 := ht t (by simp)
    rw [Bool.and_eq_true, decide_eq_true_eq] at ht0
    exact trodAll_cons_mk (Below.trod laidOut ht0.1 ht0.2 h0 hb (fun x hx => hlt x (by simp [hx]))) (trodAll_below hb ts vs0 ds0 q0 (fun u hu => ht u (by simp [hu])) r0 (fun x hx => hlt x (by simp [hx])))

/-- The post of a law: it answers true, and every argument reads as it did. -/
theorem law_post {H : Type} {enc : TypeId × Value → H} {f : Func} {s : ChangeSpec} {W W' : World} {args : Array Value} {ds : List (DataW H)} {before p : List MemPlace}
    (hvars : s.vars = []) (hfn : s.fn H (ds ++ []) = { results := [.lit (.bool true)], args := ds }) (hres : f.resultTypes = #[4])
    (hts : ∀ t ∈ f.params.toList, (Tryd.prog.readableRec t && decide (t < Tryd.prog.types.size)) = true)
    (hW : DataW.Whole enc Tryd.prog f.params.toList s.vars false W args.toList ds [] before) (hA : DataW.TrodAll enc Tryd.prog W 0 (fun _ => true) true f.params.toList args.toList ds p) (hp : ∀ x ∈ p, x ∈ before) (hb : Below W.heap.size W W') :
    s.post enc Tryd.prog f false true false false W args (.bool true) W' := by
  refine ⟨ds, [], before, [], p, [], hW, ?_, ?_, ?_, hb.frame _, fun h => by cases h⟩
  · rw [hfn, hres]; exact trodAll_mk1 (shut_bool Tryd.underlying4 true)
  · rw [hfn]; exact trodAll_below hb _ _ _ _ hts hA (fun x hx => hW.lt x (hp x hx))
  · rw [hfn, hvars]; rfl

theorem cellsCrn : Tryd.prog.cellsOf 24 = 7 := by kernel_rfl
theorem cellsBool : Tryd.prog.cellsOf 4 = 1 := by kernel_rfl
set_option maxRecDepth 100000 in
/-- A schedule that came in. -/
theorem open_crn {H : Type} {enc : TypeId × Value → H} {W : World} {b0 : Nat} {v : Value} {d : DataW H} {p : List MemPlace}
    (hval : Value.okWide Tryd.prog W .any b0 24 v) (hj : DataW.Trod enc Tryd.prog W 0 (fun _ => true) true 24 v d p) : ∃ c : Crn, v = crnV c ∧ c.Bits := by
  obtain ⟨cs, rfl, hsz⟩ := okWide_struct Tryd.underlying24 hval
  rw [cellsCrn] at hsz
  obtain ⟨fuel, hf⟩ := hj
  obtain ⟨l⟩ := cs
  have hsz2 : l.length = 7 := hsz
  match l, hsz2 with
  | [c0, c1, c2, c3, c4, c5, c6], _ =>
    cases fuel with
    | zero => simp [DataW.trod] at hf
    | succ fuel =>
      simp only [DataW.trod, Tryd.underlying24, cellsCrn] at hf
      split at hf
      · obtain ⟨xs, hm, -⟩ := Option.map_eq_some_iff.1 hf
        obtain ⟨y0, -, h0⟩ := Lib.mapM_at hm 0 _ rfl
        obtain ⟨y1, -, h1⟩ := Lib.mapM_at hm 1 _ rfl
        obtain ⟨y2, -, h2⟩ := Lib.mapM_at hm 2 _ rfl
        obtain ⟨y3, -, h3⟩ := Lib.mapM_at hm 3 _ rfl
        obtain ⟨y4, -, h4⟩ := Lib.mapM_at hm 4 _ rfl
        obtain ⟨y5, -, h5⟩ := Lib.mapM_at hm 5 _ rfl
        obtain ⟨y6, -, h6⟩ := Lib.mapM_at hm 6 _ rfl
        simp only [cellsU64, cellsBool] at h0 h1 h2 h3 h4 h5 h6
        obtain ⟨n0, e0, -, w0⟩ := DataW.trod_int Tryd.underlying22 h0
        obtain ⟨n1, e1, -, w1⟩ := DataW.trod_int Tryd.underlying22 h1
        obtain ⟨n2, e2, -, w2⟩ := DataW.trod_int Tryd.underlying22 h2
        obtain ⟨n3, e3, -, w3⟩ := DataW.trod_int Tryd.underlying22 h3
        obtain ⟨n4, e4, -, w4⟩ := DataW.trod_int Tryd.underlying22 h4
        obtain ⟨b5, e5, -⟩ := DataW.trod_bool Tryd.underlying4 h5
        obtain ⟨b6, e6, -⟩ := DataW.trod_bool Tryd.underlying4 h6
        have q0 := bounds_u64 w0
        have q1 := bounds_u64 w1
        have q2 := bounds_u64 w2
        have q3 := bounds_u64 w3
        have q4 := bounds_u64 w4
        obtain ⟨m0, rfl⟩ := Int.eq_ofNat_of_zero_le q0.1
        obtain ⟨m1, rfl⟩ := Int.eq_ofNat_of_zero_le q1.1
        obtain ⟨m2, rfl⟩ := Int.eq_ofNat_of_zero_le q2.1
        obtain ⟨m3, rfl⟩ := Int.eq_ofNat_of_zero_le q3.1
        obtain ⟨m4, rfl⟩ := Int.eq_ofNat_of_zero_le q4.1
        obtain rfl : c0 = .int .u64 m0 := List.head_eq_of_cons_eq e0
        obtain rfl : c1 = .int .u64 m1 := List.head_eq_of_cons_eq e1
        obtain rfl : c2 = .int .u64 m2 := List.head_eq_of_cons_eq e2
        obtain rfl : c3 = .int .u64 m3 := List.head_eq_of_cons_eq e3
        obtain rfl : c4 = .int .u64 m4 := List.head_eq_of_cons_eq e4
        obtain rfl : c5 = .bool b5 := List.head_eq_of_cons_eq e5
        obtain rfl : c6 = .bool b6 := List.head_eq_of_cons_eq e6
        exact ⟨⟨m0, m1, m2, m3, m4, b5, b6⟩, rfl, ⟨by show m0 < _; omega, by show m1 < _; omega, by show m2 < _; omega, by show m3 < _; omega, by show m4 < _; omega⟩⟩
      · cases hf
end Go.Proofs.YtccobaohmbilpaaDoor
