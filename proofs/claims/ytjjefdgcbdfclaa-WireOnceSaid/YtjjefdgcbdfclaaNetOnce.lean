/-
  Nets in which what was sent, and how many of each number are on their way, is told beside: what sending, taking off and doubling makes of it. Conditions: none.
-/
import Derived.Test.YtjjefdgcbdfclaaNetTimes
namespace Go.Proofs.Ytjjefdgcbdfclaa

/-- How many messages bear a number. -/
def cntI (l : List Ms) (k : Int) : Int := (((l.filter fun m => m.id == k).length : Nat) : Int)
theorem cntI_app (l l' : List Ms) (k : Int) : cntI (l ++ l') k = cntI l k + cntI l' k := by
  unfold cntI; rw [List.filter_append, List.length_append]; omega
theorem cntI_one (m : Ms) (k : Int) : cntI [m] k = if m.id = k then 1 else 0 := by
  unfold cntI
  by_cases e : m.id = k
  · rw [if_pos e, List.filter_cons_of_pos (by simpa using e)]; rfl
  · rw [if_neg e, List.filter_cons_of_neg (by simpa using e)]; rfl
theorem cntI_nonneg (l : List Ms) (k : Int) : 0 ≤ cntI l k := by unfold cntI; omega
theorem cntI_le (l : List Ms) (k : Int) : cntI l k ≤ l.length := by
  unfold cntI
  have := List.length_filter_le (fun m : Ms => m.id == k) l
  omega
theorem cntI_split (l : List Ms) (p : Nat) (hp : p < l.length) (k : Int) : cntI l k = cntI (l.take p ++ l.drop (p + 1)) k + if l[p].id = k then 1 else 0 := by
  have h1 : l = l.take p ++ l[p] :: l.drop (p + 1) := by rw [← List.drop_eq_getElem_cons hp, List.take_append_drop]
  have h2 : cntI l k = cntI (l.take p) k + cntI (l[p] :: l.drop (p + 1)) k := (congrArg (cntI · k) h1).trans (cntI_app _ _ _)
  rw [h2, cntI_app, show l[p] :: l.drop (p + 1) = [l[p]] ++ l.drop (p + 1) from rfl, cntI_app, cntI_one]; omega
theorem cntI_take (l : List Ms) (j : Nat) (hj : j < l.length) (k : Int) : cntI (l.take (j + 1)) k = cntI (l.take j) k + if l[j].id = k then 1 else 0 := by
  rw [List.take_succ_eq_append_getElem hj, cntI_app, cntI_one]
def upd {α : Type} (f : Int → α) (k : Int) (v : α) : Int → α := fun x => if x = k then v else f x
theorem upd_same {α : Type} (f : Int → α) (k : Int) (v : α) : upd f k v k = v := if_pos rfl
theorem upd_other {α : Type} (f : Int → α) {k x : Int} (v : α) (h : x ≠ k) : upd f k v x = f x := if_neg h
/-- N texts were sent; g says which, f how many of each are on their way. -/
structure Once (n : Nt) (N : Nat) (g : Int → ByteArray) (f : Int → Int) : Prop where
  right : n.right = true
  last : n.last = N
  few : N ≤ 20
  ms : ∀ m ∈ n.fl, m.to = m.id - 1 ∧ m.body = g m.id
  cnt : ∀ k, f k = cntI n.fl k
theorem Once.zero : Once noN 0 (fun _ => ⟨#[]⟩) fun _ => 0 := ⟨by rfl, rfl, by decide, by simp [noN], fun _ => rfl⟩
theorem Once.ids {n : Nt} {N : Nat} {g : Int → ByteArray} {f : Int → Int} (h : Once n N g f) : ∀ m ∈ n.fl, 1 ≤ m.id ∧ m.id ≤ N := fun m hm => by
  have := ((Nt.right_iff n).1 h.right).ms m hm
  have := h.last
  omega
theorem Once.none {n : Nt} {N : Nat} {g : Int → ByteArray} {f : Int → Int} (h : Once n N g f) : f ((N : Int) + 1) = 0 := by
  rw [h.cnt]
  unfold cntI
  rw [List.filter_eq_nil_iff.2 fun m hm => by have := h.ids m hm; simp; omega]; rfl
def wroteN (n : Nt) (N : Nat) (s : ByteArray) : Nt := ⟨n.fl ++ [⟨(N : Int) + 1, N, s, n.now⟩], (N : Int) + 1, n.now⟩
theorem Once.send {n : Nt} {N : Nat} {g : Int → ByteArray} {f : Int → Int} (h : Once n N g f) (hN : N < 20) (hl : n.fl.length = N) {s : ByteArray} (hs : s.size ≤ 100) : sendA n N s = (wroteN n N s, (N : Int) + 1, 0) := by
  have h1 := h.last
  rw [send_ok h.right (by omega) (by omega) (by omega) (by omega), h1]
  rfl
theorem Once.sent {n : Nt} {N : Nat} {g : Int → ByteArray} {f : Int → Int} (h : Once n N g f) (hN : N < 20) (hl : n.fl.length = N) {s : ByteArray} (hs : s.size ≤ 100) :
    Once (wroteN n N s) (N + 1) (upd g ((N : Int) + 1) s) (upd f ((N : Int) + 1) 1) := by
  have h1 := h.last
  have hr := send_right (to := N) (body := s) h.right (by omega) (by omega) (by omega) (by omega)
  rw [h1] at hr
  refine ⟨hr, by show (N : Int) + 1 = _; omega, hN, fun m hm => ?_, fun k => ?_⟩
  · rcases List.mem_append.1 (show m ∈ n.fl ++ [_] from hm) with hm | hm
    · obtain ⟨h3, h4⟩ := h.ms m hm
      have := h.ids m hm
      rw [upd_other g s (by omega)]
      exact ⟨h3, h4⟩
    · rw [List.mem_singleton.1 hm]
      exact ⟨by show (N : Int) = (N : Int) + 1 - 1; omega, (upd_same g _ s).symm⟩
  · show upd f ((N : Int) + 1) 1 k = cntI (n.fl ++ [_]) k
    rw [cntI_app, cntI_one, ← h.cnt]
    show upd f ((N : Int) + 1) 1 k = f k + if (N : Int) + 1 = k then 1 else 0
    by_cases e : k = (N : Int) + 1
    · rw [e, upd_same, if_pos rfl, h.none]; rfl
    · rw [upd_other f 1 e, if_neg fun x => e x.symm]; omega
theorem Once.at {n : Nt} {N : Nat} {g : Int → ByteArray} {f : Int → Int} (h : Once n N g f) (p : Nat) (hp : p < n.fl.length) : 1 ≤ f n.fl[p].id ∧ f n.fl[p].id ≤ 32 ∧ n.fl[p].to = n.fl[p].id - 1 ∧ n.fl[p].body = g n.fl[p].id ∧ 1 ≤ n.fl[p].id ∧ n.fl[p].id ≤ 20 := by
  have hm := List.getElem_mem hp
  obtain ⟨h1, h2⟩ := h.ms _ hm
  have h3 := h.ids _ hm
  have h4 := h.few
  have h5 := cntI_split n.fl p hp n.fl[p].id
  rw [if_pos rfl] at h5
  have h6 := cntI_nonneg (n.fl.take p ++ n.fl.drop (p + 1)) n.fl[p].id
  have h7 := cntI_le n.fl n.fl[p].id
  have h8 := ((Nt.right_iff n).1 h.right).few
  rw [h.cnt]
  exact ⟨by omega, by omega, h1, h2, h3.1, by omega⟩
theorem Once.off {n : Nt} {N : Nat} {g : Int → ByteArray} {f : Int → Int} (h : Once n N g f) (p : Nat) (hp : p < n.fl.length) : Once (offN n p) N g (upd f n.fl[p].id (f n.fl[p].id - 1)) := by
  have hsub : ∀ m ∈ (offN n p).fl, m ∈ n.fl := fun m hm => by
    rcases List.mem_append.1 (show m ∈ n.fl.take p ++ n.fl.drop (p + 1) from hm) with hm | hm
    · exact List.mem_of_mem_take hm
    · exact List.mem_of_mem_drop hm
  have hM := (Nt.right_iff n).1 h.right
  refine ⟨(Nt.right_iff _).2 ⟨fun m hm => hM.ms m (hsub m hm), by rw [offN_len hp]; have := hM.few; omega, hM.last, hM.now⟩, h.last, h.few, fun m hm => h.ms m (hsub m hm), fun k => ?_⟩
  have h5 := cntI_split n.fl p hp k
  have h6 := h.cnt k
  have h7 := h.cnt n.fl[p].id
  show _ = cntI (n.fl.take p ++ n.fl.drop (p + 1)) k
  by_cases e : k = n.fl[p].id
  · subst e
    rw [upd_same]
    rw [if_pos rfl] at h5
    omega
  · rw [upd_other f _ e]
    rw [if_neg fun x => e x.symm] at h5
    omega
def twiceN (n : Nt) (p : Nat) (hp : p < n.fl.length) : Nt := ⟨n.fl ++ [n.fl[p]], n.last, n.now⟩
theorem Once.twice {n : Nt} {N : Nat} {g : Int → ByteArray} {f : Int → Int} (h : Once n N g f) (p : Nat) (hp : p < n.fl.length) (hl : n.fl.length ≠ 32) : Once (twiceN n p hp) N g (upd f n.fl[p].id (f n.fl[p].id + 1)) := by
  have hsub : ∀ m ∈ (twiceN n p hp).fl, m ∈ n.fl := fun m hm => by
    rcases List.mem_append.1 (show m ∈ n.fl ++ [n.fl[p]] from hm) with hm | hm
    · exact hm
    · rw [List.mem_singleton.1 hm]; exact List.getElem_mem hp
  have hM := (Nt.right_iff n).1 h.right
  refine ⟨(Nt.right_iff _).2 ⟨fun m hm => hM.ms m (hsub m hm), by show (n.fl ++ [_]).length ≤ 32; rw [List.length_append, List.length_singleton]; have := hM.few; omega, hM.last, hM.now⟩, h.last, h.few, fun m hm => h.ms m (hsub m hm), fun k => ?_⟩
  show _ = cntI (n.fl ++ [n.fl[p]]) k
  rw [cntI_app, cntI_one, ← h.cnt]
  by_cases e : k = n.fl[p].id
  · subst e; rw [upd_same, if_pos rfl]
  · rw [upd_other f _ e, if_neg fun x => e x.symm]; omega
/-- What is left when the first j on their way were counted off. -/
def leftJ (f : Int → Int) (l : List Ms) (j : Nat) : Int → Int := fun k => f k - cntI (l.take j) k
theorem leftJ_zero (f : Int → Int) (l : List Ms) : leftJ f l 0 = f := by
  funext k; show f k - cntI [] k = f k
  have : cntI [] k = 0 := rfl
  omega
theorem leftJ_next (f : Int → Int) (l : List Ms) (j : Nat) (hj : j < l.length) : upd (leftJ f l j) l[j].id (leftJ f l j l[j].id - 1) = leftJ f l (j + 1) := by
  funext k
  have h := cntI_take l j hj k
  by_cases e : k = l[j].id
  · subst e
    rw [upd_same]
    rw [if_pos rfl] at h
    unfold leftJ
    omega
  · rw [upd_other _ _ e]
    rw [if_neg fun x => e x.symm] at h
    unfold leftJ
    omega
theorem Once.left {n : Nt} {N : Nat} {g : Int → ByteArray} {f : Int → Int} (h : Once n N g f) (k : Int) : leftJ f n.fl n.fl.length k = 0 := by
  unfold leftJ
  rw [List.take_length, h.cnt]; omega
theorem Once.bound {n : Nt} {N : Nat} {g : Int → ByteArray} {f : Int → Int} (h : Once n N g f) (j : Nat) (k : Int) : 0 - 32 ≤ leftJ f n.fl j k ∧ leftJ f n.fl j k ≤ 32 := by
  have h1 := cntI_nonneg (n.fl.take j) k
  have h2 := cntI_le (n.fl.take j) k
  have h3 := cntI_nonneg n.fl k
  have h4 := cntI_le n.fl k
  have h5 := ((Nt.right_iff n).1 h.right).few
  rw [List.length_take] at h2
  unfold leftJ
  rw [h.cnt]
  omega
end Go.Proofs.Ytjjefdgcbdfclaa
