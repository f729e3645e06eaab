/-
  What the walks of schedules' texts want of the package-level variables, kept by what follows; strconv.Itoa, Atoi, strings.Cut and Split by contracts over it. Conditions: none.
-/
import Derived.Test.YtccobaohmbilpaaDoorCronFire
import Derived.Test.YtccobaohmbilpaaDoorCronErr
import Derived.Test.YtccobaohmbilpaaDoorShelf
import Derived.Lib.AtoiErrMem
import Derived.Lib.SplitLaws
import Derived.Test.YtccobaohmbilpaaDoorRefSplitB
namespace Go.Proofs.YtccobaohmbilpaaDoor
open Go.RowKit

/-- The fields' bounds, and the step's. -/
def lowB : Nat → Nat
  | 2 => 1
  | 3 => 1
  | 5 => 1
  | _ => 0
def highB : Nat → Nat
  | 0 => 59
  | 1 => 23
  | 2 => 31
  | 3 => 12
  | 4 => 6
  | _ => 59
/-- The package-level variables. -/
structure CEnv (w : World) (aA aN aO : Addr) : Prop where
  months : Months w
  max : ∃ m, w.cell? ⟨4, 0, none⟩ = some (.int .i64 m)
  pow : Lib.TabIs Tryd.prog w "internal/strconv.uint64pow10" .u64 Lib.pow10Tab
  syn : ∃ tp p, w.var? Tryd.prog "strconv.ErrSyntax" = some #[.iface tp p]
  ran : ∃ tp p, w.var? Tryd.prog "strconv.ErrRange" = some #[.iface tp p]
  bound : ∀ i, i ≤ 5 → w.cell? ⟨0, 2 * i, none⟩ = some (.int .i64 (lowB i : Nat)) ∧ w.cell? ⟨0, 2 * i + 1, none⟩ = some (.int .i64 (highB i : Nat))
  gA : w.cell? ⟨1, 0, none⟩ = some (errV aA)
  gN : w.cell? ⟨2, 0, none⟩ = some (errV aN)
  gO : w.cell? ⟨5, 0, none⟩ = some (errV aO)
  bA : ∃ c t, w.heap[aA.block]? = some (.cells c t (0, 0))
  bN : ∃ c t, w.heap[aN.block]? = some (.cells c t (0, 0))
  bO : ∃ c t, w.heap[aO.block]? = some (.cells c t (0, 0))
  nNA : aN ≠ aA
  nOA : aO ≠ aA
theorem var_keep {w w' : World} {name : String} {g : Nat} {cs : Array Value} (hg : Tryd.prog.globalNamed name = some g) (hb : w'.heap[g]? = w.heap[g]?) (h : w.var? Tryd.prog name = some cs) : w'.var? Tryd.prog name = some cs := by
  unfold World.var? at h ⊢
  rw [hg] at h ⊢
  simp only [Option.bind_some] at h ⊢
  rw [hb]; exact h
theorem CEnv.keep {w w' : World} {aA aN aO : Addr} (h : CEnv w aA aN aO) (hb : Below w.heap.size w w') : CEnv w' aA aN aO where
  months := h.months.keep hb
  max := by obtain ⟨m, hm⟩ := h.max; exact ⟨m, (hb.cell (World.block_lt_of_cell? _ _ hm)).trans hm⟩
  pow := var_keep (g := 10) (by kernel_rfl) (hb.block _ (Nat.lt_of_lt_of_le (by decide) h.months.size)) h.pow
  syn := by obtain ⟨tp, p, e⟩ := h.syn; exact ⟨tp, p, var_keep (g := 8) (by kernel_rfl) (hb.block _ (Nat.lt_of_lt_of_le (by decide) h.months.size)) e⟩
  ran := by obtain ⟨tp, p, e⟩ := h.ran; exact ⟨tp, p, var_keep (g := 9) (by kernel_rfl) (hb.block _ (Nat.lt_of_lt_of_le (by decide) h.months.size)) e⟩
  bound := fun i hi => ⟨(hb.cell (World.block_lt_of_cell? _ _ (h.bound i hi).1)).trans (h.bound i hi).1, (hb.cell (World.block_lt_of_cell? _ _ (h.bound i hi).2)).trans (h.bound i hi).2⟩
  gA := (hb.cell (World.block_lt_of_cell? _ _ h.gA)).trans h.gA
  gN := (hb.cell (World.block_lt_of_cell? _ _ h.gN)).trans h.gN
  gO := (hb.cell (World.block_lt_of_cell? _ _ h.gO)).trans h.gO
  bA := by obtain ⟨c, t, e⟩ := h.bA; exact ⟨c, t, (hb.block _ (Array.getElem?_eq_some_iff.1 e).1).trans e⟩
  bN := by obtain ⟨c, t, e⟩ := h.bN; exact ⟨c, t, (hb.block _ (Array.getElem?_eq_some_iff.1 e).1).trans e⟩
  bO := by obtain ⟨c, t, e⟩ := h.bO; exact ⟨c, t, (hb.block _ (Array.getElem?_eq_some_iff.1 e).1).trans e⟩
  nNA := h.nNA
  nOA := h.nOA

theorem below_grow (w : World) (q : Nat) (os : Array Obj) : Below w.heap.size w (Sort.grow (w.drewN q) os) := by
  refine ⟨rfl, rfl, rfl, by simp [Sort.grow], fun k hk => ?_⟩
  show (w.heap ++ os)[k]? = _
  rw [Array.getElem?_append_left hk]
theorem itoa_any (n : Int) (h0 : -9223372036854775808 ≤ n) (h1 : n ≤ 9223372036854775807) {aA aN aO : Addr} (w : World) (h : CEnv w aA aN aO) :
    Calls Tryd.prog 53 #[.int .i64 n] w fun e w' => e = .returned (.string ⟨(Lib.itoa n).toArray⟩) ∧ Below w.heap.size w w' := by
  refine (Tryd.strconv_Itoa n h0 h1 w h.pow).mono ?_
  rintro e w' ⟨rfl, k, os, rfl⟩
  exact ⟨rfl, below_grow w k os⟩
/-- How strconv.Atoi ends. -/
def AtoiEnd (s : ByteArray) (e : Ending) : Prop :=
  (∃ n, Lib.atoiAll s.data.toList = .ok n ∧ e = .returned (.tuple #[.int .i64 n, .nilIface])) ∨
  (∃ n p, (∀ m, Lib.atoiAll s.data.toList ≠ .ok m) ∧ e = .returned (.tuple #[.int .i64 n, .iface 115 p]))
theorem atoi_any (s : ByteArray) (hs : s.size ≤ 281474976710656) {aA aN aO : Addr} (w : World) (h : CEnv w aA aN aO) :
    Calls Tryd.prog 52 #[.string s] w fun e w' => AtoiEnd s e ∧ Below w.heap.size w w' := by
  rcases ha : Lib.atoiAll s.data.toList with n | - | -
  · refine (Tryd.strconv_Atoi_ok s (by omega) n ha w).mono ?_
    rintro e w' ⟨rfl, h⟩
    refine ⟨Or.inl ⟨n, ha, rfl⟩, ?_⟩
    rcases h with rfl | ⟨t, rfl⟩
    · exact Below.refl _ _
    · exact Lib.bytesWorld_below _ _ _
  · obtain ⟨tp, p, hv⟩ := h.syn
    refine (Tryd.strconv_Atoi_syntax_var s hs ha tp p w hv).mono ?_
    rintro e w' ⟨N, rfl, -, -, hb⟩
    exact ⟨Or.inr ⟨_, _, (fun m e => by rw [ha] at e; cases e), rfl⟩, hb⟩
  · obtain ⟨tp, p, hv⟩ := h.ran
    refine (Tryd.strconv_Atoi_range_var s hs ha tp p w hv).mono ?_
    rintro e w' ⟨N, rfl, -, -, hb⟩
    exact ⟨Or.inr ⟨_, _, (fun m e => by rw [ha] at e; cases e), rfl⟩, hb⟩
theorem below_drew (w : World) (n : Nat) : Below w.heap.size w (w.drewN n) := ⟨rfl, rfl, rfl, Nat.le_refl _, fun _ _ => rfl⟩
theorem cut_any (b : UInt8) (l : List UInt8) : Lib.cut l [b] = cutB b l := by
  rw [cut_one]
  obtain ⟨-, h2⟩ := cutB_sound b l
  rcases h2 with ⟨a, e⟩ | ⟨a, e, f⟩
  · rw [if_pos a]
  · rw [if_neg (by rw [a]; decide)]
    exact Prod.ext e.symm (Prod.ext f.symm a.symm)
theorem cut_t (s : ByteArray) (b : UInt8) (hs : s.size ≤ 300) {aA aN aO : Addr} (w : World) (h : CEnv w aA aN aO) :
    Calls Tryd.prog 47 #[.string s, .string ⟨#[b]⟩] w fun e w' => e = .returned (.tuple #[.string ⟨(cutB b s.data.toList).1.toArray⟩, .string ⟨(cutB b s.data.toList).2.1.toArray⟩, .bool (cutB b s.data.toList).2.2]) ∧ Below w.heap.size w w' := by
  obtain ⟨m, hm⟩ := h.max
  refine (Tryd.strings_Cut s ⟨#[b]⟩ m w (by omega) hm).mono ?_
  rintro e w' ⟨rfl, n, rfl⟩
  have hq := cut_any b s.data.toList
  rw [show (⟨#[b]⟩ : ByteArray).data.toList = [b] from rfl, hq]
  exact ⟨rfl, below_drew w n⟩
theorem cutB_len (b : UInt8) (l : List UInt8) : (cutB b l).1.length ≤ l.length ∧ (cutB b l).2.1.length ≤ l.length := by
  obtain ⟨-, h2⟩ := cutB_sound b l
  rcases h2 with ⟨a, e⟩ | ⟨a, e, f⟩
  · have h3 := congrArg List.length e
    rw [List.length_append, List.length_cons] at h3
    omega
  · rw [e, f]; simp

/-! ### strings.Split -/
theorem index_ne (b c : UInt8) (l : List UInt8) (h : b ≠ c) : Lib.index (b :: l) [c] = if Lib.index l [c] == -1 then -1 else Lib.index l [c] + 1 := by
  have hp : ([c] : List UInt8).isPrefixOf (b :: l) = false := by simp [List.isPrefixOf, Ne.symm h]
  rw [Lib.index, hp]; simp
theorem index_eq (c : UInt8) (l : List UInt8) : Lib.index (c :: l) [c] = 0 := by rw [Lib.index]; simp [List.isPrefixOf]
theorem splitK_ne (b c : UInt8) (h : b ≠ c) : ∀ (k : Nat) (l x : List UInt8) (t : List (List UInt8)), Lib.splitK [c] 0 k l = x :: t → Lib.splitK [c] 0 k (b :: l) = (b :: x) :: t
  | 0, l, x, t, e => by
    simp only [Lib.splitK, List.cons.injEq] at e ⊢
    exact ⟨by simp [e.1], e.2⟩
  | k + 1, l, x, t, e => by
    have hge := Lib.index_ge l [c]
    by_cases hm : Lib.index l [c] = -1
    · unfold Lib.splitK at e ⊢
      rw [index_ne b c l h]
      simp only [hm, beq_self_eq_true, if_true, List.cons.injEq] at e ⊢
      exact ⟨by simp [e.1], e.2⟩
    · have hb : (Lib.index l [c] == -1) = false := beq_eq_false_iff_ne.2 hm
      have hb2 : (Lib.index l [c] + 1 == -1) = false := beq_eq_false_iff_ne.2 (by omega)
      unfold Lib.splitK at e ⊢
      rw [index_ne b c l h]
      obtain ⟨i, hi⟩ : ∃ i : Nat, Lib.index l [c] = i := ⟨(Lib.index l [c]).toNat, by omega⟩
      rw [hi] at hb hb2 e ⊢
      have e1 : ((i : Int) + 1).toNat = i + 1 := by omega
      have e2 : ((i : Int)).toNat = i := by omega
      simp only [hb, hb2, if_false, Bool.false_eq_true, e1, e2, Nat.add_zero, List.cons.injEq] at e ⊢
      refine ⟨by rw [← e.1]; rfl, ?_⟩
      rw [← e.2]
      congr 1
theorem goC_now (b : UInt8) : ∀ (l now x : List UInt8) (t : List (List UInt8)), goC b [] l = x :: t → goC b now l = (now ++ x) :: t
  | [], now, x, t, e => by
    simp only [goC, List.cons.injEq] at e ⊢
    exact ⟨by rw [← e.1]; simp, e.2⟩
  | c :: l, now, x, t, e => by
    by_cases hc : c = b
    · simp only [goC, if_pos hc, List.cons.injEq] at e ⊢
      exact ⟨by rw [← e.1]; simp, e.2⟩
    · simp only [goC, if_neg hc, List.nil_append] at e ⊢
      obtain ⟨y, u, hy⟩ : ∃ y u, goC b [] l = y :: u := List.exists_cons_of_ne_nil (goC_ne b l [])
      rw [goC_now b l _ y u hy] at e ⊢
      simp only [List.cons.injEq] at e ⊢
      exact ⟨by rw [← e.1]; simp, e.2⟩
theorem split_goC (c : UInt8) : ∀ l : List UInt8, Lib.splitK [c] 0 (l.count c) l = goC c [] l
  | [] => rfl
  | b :: l => by
    by_cases h : b = c
    · subst h
      have e := index_eq b l
      rw [List.count_cons_self]
      simp only [Lib.splitK, goC, if_true, e]
      simp only [show ((0 : Int) == -1) = false by decide, Bool.false_eq_true, if_false, Int.toNat_zero, Nat.add_zero, List.take_zero, List.length_singleton, Nat.zero_add]
      rw [List.drop_one, List.tail_cons, split_goC b l]
    · rw [List.count_cons_of_ne (by simpa using h)]
      obtain ⟨y, u, hy⟩ : ∃ y u, goC c [] l = y :: u := List.exists_cons_of_ne_nil (goC_ne c l [])
      rw [splitK_ne b c h _ l y u (by rw [split_goC c l]; exact hy)]
      simp only [goC, if_neg h, List.nil_append]
      rw [goC_now c l [b] y u hy]; rfl
theorem ext_list {a b : ByteArray} (h : a.data.toList = b.data.toList) : a = b := by
  apply ByteArray.ext; apply Array.ext'; exact h
theorem split_at (c : UInt8) (s : ByteArray) : Lib.splitB ⟨#[c]⟩ 0 (Lib.countB s ⟨#[c]⟩) s = (goC c [] s.data.toList).map fun l => ⟨l.toArray⟩ := by
  have h := Lib.splitB_data ⟨#[c]⟩ 0 (Lib.countB s ⟨#[c]⟩) s
  have hc : Lib.countB s ⟨#[c]⟩ = s.data.toList.count c := Lib.count_one c s.data.toList
  have h2 : (Lib.splitB ⟨#[c]⟩ 0 (Lib.countB s ⟨#[c]⟩) s).map (·.data.toList) = goC c [] s.data.toList := by
    rw [h, hc]; exact split_goC c s.data.toList
  rw [← h2, List.map_map]
  have e : ((fun l => (⟨l.toArray⟩ : ByteArray)) ∘ fun x : ByteArray => x.data.toList) = id := funext fun x => ext_list rfl
  rw [e, List.map_id]
theorem goC_len (b : UInt8) : ∀ (l now : List UInt8), (goC b now l).length ≤ l.length + 1 ∧ ∀ x ∈ goC b now l, x.length ≤ now.length + l.length
  | [], now => by simp [goC]
  | c :: l, now => by
    unfold goC
    split
    · have := goC_len b l []
      refine ⟨by simp only [List.length_cons]; omega, fun x hx => ?_⟩
      rcases List.mem_cons.1 hx with hx | hx
      · rw [hx]; simp
      · have := this.2 x hx
        simp only [List.length_cons, List.length_nil] at this ⊢; omega
    · have := goC_len b l (now ++ [c])
      refine ⟨by simp only [List.length_cons]; omega, fun x hx => ?_⟩
      have := this.2 x hx
      simp only [List.length_cons, List.length_append, List.length_nil] at this ⊢; omega
/-- The pieces of a text, as strings. -/
def pieces (c : UInt8) (s : ByteArray) : List ByteArray := (goC c [] s.data.toList).map fun l => ⟨l.toArray⟩
theorem pieces_len (c : UInt8) (s : ByteArray) : (pieces c s).length ≤ s.size + 1 ∧ ∀ x ∈ pieces c s, x.size ≤ s.size := by
  have h := goC_len c s.data.toList []
  rw [← size_list s] at h
  unfold pieces
  refine ⟨by rw [List.length_map]; exact h.1, fun x hx => ?_⟩
  obtain ⟨l, hl, rfl⟩ := List.mem_map.1 hx
  have := h.2 l hl
  rw [size_list]
  simpa using this
theorem split_t (s : ByteArray) (c : UInt8) (hs : s.size ≤ 300) {aA aN aO : Addr} (w : World) (h : CEnv w aA aN aO) :
    Calls Tryd.prog 18 #[.string s, .string ⟨#[c]⟩] w fun e w' => (∃ pb, e = .returned (.slice (some ⟨pb, 0, none⟩) (pieces c s).length (pieces c s).length) ∧ ∀ i (h : i < (pieces c s).length), w'.cell? ⟨pb, i, none⟩ = some (.string (pieces c s)[i])) ∧ Below w.heap.size w w' := by
  obtain ⟨m, hm⟩ := h.max
  have hcount : Lib.countB s ⟨#[c]⟩ + 1 = (pieces c s).length := by
    unfold pieces
    rw [← split_at c s, Lib.splitB_all ⟨#[c]⟩ (by exact Nat.le_refl 1) 0 _ s rfl]
  refine (Tryd.strings_Split s ⟨#[c]⟩ m w (by omega) hm (by exact Nat.le_refl 1)).mono ?_
  rintro e w' ⟨rfl, rfl⟩
  rw [hcount, split_at]
  show (∃ pb, _ ∧ ∀ i (h : i < (pieces c s).length), (w.alloc (.cells ((pieces c s).map Value.string).toArray 9)).cell? ⟨pb, i, none⟩ = _) ∧ _
  refine ⟨⟨w.heap.size, rfl, fun i hi => ?_⟩, below_new w _⟩
  rw [World.cell?_alloc_at _ _ _ _ rfl]
  simp [hi]
end Go.Proofs.YtccobaohmbilpaaDoor
