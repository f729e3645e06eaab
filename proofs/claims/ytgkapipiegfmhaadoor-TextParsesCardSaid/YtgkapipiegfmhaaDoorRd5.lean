/-
  The program's reader: what stands between two brackets as a plain function, and the loop over it for a row. Conditions: the reader's value by its contract.
-/
import Derived.Test.YtgkapipiegfmhaaDoorRd4
namespace Go.Proofs.YtgkapipiegfmhaaDoor
open Go.RowKit

/-- What follows behind an item. -/
def tailL (rd : List UInt8 → Option (Val × List UInt8)) (four : Bool) (en : UInt8) (f : Nat) (items : List Val) (names : List ByteArray) : List UInt8 → Option (List Val × List ByteArray × List UInt8)
  | [] => none
  | c :: r => if c = en then some (items, names, r) else if c = 44 then itemsL rd four en f items names r else none
theorem itemsL_one (rd : List UInt8 → Option (Val × List UInt8)) (four : Bool) (en : UInt8) (f : Nat) (items : List Val) (names : List ByteArray) (s : List UInt8) :
    itemsL rd four en (f + 1) items names s = match nameL four names s with
      | none => none
      | some (names', s') => match rd s' with
        | none => none
        | some (x, t) => tailL rd four en f (items ++ [x]) names' t := by
  rw [itemsL]
  cases nameL four names s with
  | none => rfl
  | some p =>
    obtain ⟨names', s'⟩ := p
    simp only
    cases rd s' with
    | none => rfl
    | some q =>
      obtain ⟨x, t⟩ := q
      cases t with
      | nil => rfl
      | cons c r => rfl
theorem itemsL_row (rd : List UInt8 → Option (Val × List UInt8)) (en : UInt8) (f : Nat) (items : List Val) (names : List ByteArray) (s : List UInt8) :
    itemsL rd false en (f + 1) items names s = match rd s with | none => none | some (x, t) => tailL rd false en f (items ++ [x]) names t := by
  rw [itemsL_one]; rfl
/-- What stands between two brackets, the brackets with it. -/
def listL (four : Bool) (be en : UInt8) : List UInt8 → Option (List Val × List ByteArray × List UInt8)
  | [] => none
  | c :: l => if c = be then (if l.head? = some en then some ([], [], l.tail) else itemsL rdL four en (l.length + 1) [] [] l) else none

theorem rdL_shorter (s : List UInt8) (x : Val) (r : List UInt8) (h : rdL s = some (x, r)) : r.length ≤ s.length := by
  have := parseL_sound _ _ _ _ h
  rw [this]; simp

/-- The geometry of a call: where what it works on lies. -/
structure Geo (base B V R : Nat) : Prop where
  hB : 8 ≤ B
  hV : 8 ≤ V
  hBb : B < base
  hVb : V < base
  hRb : R < base
  hVB : V ≠ B
  hRB : R ≠ B
  hRV : R ≠ V
theorem TEnv.fr2 {base B V R : Nat} {w w' : World} (h : TEnv w) (g : Geo base B V R) (f : Fr2 base B V w w') : TEnv w' :=
  h.keep f.size fun k hk => f.block k (Nat.lt_trans (Nat.lt_of_lt_of_le hk g.hB) g.hBb) (fun e => by have := g.hB; omega) (fun e => by have := g.hV; omega)
theorem PtrAt.fr2 {base B V R : Nat} {w w' : World} (h : PtrAt w R B) (g : Geo base B V R) (f : Fr2 base B V w w') : PtrAt w' R B := (f.block R g.hRb g.hRB g.hRV).trans h
theorem Fr2.set {base B V : Nat} (w : World) (o : Nat) (u : Value) : Fr2 base B V w (w.setCell ⟨B, o, none⟩ u) :=
  ⟨rfl, rfl, rfl, by rw [setCell_size]; exact Nat.le_refl _, fun _ _ h _ => Below.heap_setCell _ _ _ _ h⟩

/-- The state of a row that is being read. -/
structure StR (base B V R : Nat) (a b c ne : Value) (w0 : World) (ts : List Val) (t : ByteArray) (w : World) : Prop where
  fr : Fr2 base B V w0 w
  rd : RdAt w B t
  env : TEnv w
  ptr : PtrAt w R B
  size : base ≤ w.heap.size
  row : ∃ hv xs, At5 w V a b c hv ne ∧ RowOf base w hv none ts xs
theorem StR.set {base B V R : Nat} {a b c ne : Value} {w0 : World} {ts : List Val} {t : ByteArray} {w : World} (h : StR base B V R a b c ne w0 ts t w) (g : Geo base B V R) (r : ByteArray) :
    StR base B V R a b c ne w0 ts r (w.setCell ⟨B, 0, none⟩ (.string r)) := by
  have f := Fr2.set (base := base) (B := B) (V := V) w 0 (.string r)
  obtain ⟨hv, xs, h5, hr⟩ := h.row
  refine ⟨h.fr.trans f, h.rd.set r, h.env.fr2 g f, h.ptr.fr2 g f, by rw [setCell_size]; exact h.size, hv, xs, (Below.heap_setCell _ _ _ _ g.hVB).trans h5, hr.keep (fun k hk _ _ => Below.heap_setCell _ _ _ _ ?_) (Or.inl rfl)⟩
  have := g.hBb
  exact fun e => by rw [e] at hk; exact absurd hk (Nat.not_le_of_lt this)
/-- How one item more of a row ends. -/
structure OneR (base B V R : Nat) (a b c ne : Value) (w0 : World) (ts : List Val) (t : ByteArray) (e : Ending) (w' : World) : Prop where
  fr : Fr2 base B V w0 w'
  is : match rdL t.data.toList with
    | some p => e = .returned (.tuple #[]) ∧ StR base B V R a b c ne w0 (ts ++ [p.1]) ⟨p.2.toArray⟩ w'
    | none => e = stop 6
theorem oneR (base B V R : Nat) (a b c ne : Value) (w0 : World) (ts : List Val) (t : ByteArray) (w : World) (g : Geo base B V R) (h : StR base B V R a b c ne w0 ts t w) (hlen : ts.length ≤ 5000)
    (CV : ∀ w, RdAt w B t → TEnv w → Calls Tryd.prog 16 #[.pointer (some ⟨B, 0, none⟩)] w (ValEnds B t w)) :
    Calls Tryd.prog 33 #[.pointer (some ⟨V, 0, none⟩), .pointer (some ⟨R, 0, none⟩)] w fun e w' => OneR base B V R a b c ne w0 ts t e w' := by
  obtain ⟨hv, xs, h5, hr⟩ := h.row
  have key : Calls Tryd.prog 33 #[.pointer (some ⟨V, 0, none⟩), .pointer (some ⟨R, 0, none⟩)] w fun e w' => OneEnds base B V t ts a b c hv ne none w e w' := by
    cases ho : rdL t.data.toList with
    | none => exact row1_none base B V R t ts xs a b c hv ne w CV h.rd h.env g.hB g.hBb g.hVb g.hRb g.hVB g.hRB g.hRV h.size h5 h.ptr hr hlen ho
    | some p => exact row1_some base B V R t ts xs a b c hv ne w CV h.rd h.env g.hB g.hBb g.hVb g.hRb g.hVB g.hRB g.hRV h.size h5 h.ptr hr hlen p.1 p.2 ho
  refine key.mono fun e w' hk => ⟨h.fr.trans hk.fr, ?_⟩
  have hi := hk.is
  cases ho : rdL t.data.toList with
  | none => rw [ho] at hi; exact hi
  | some p =>
    rw [ho] at hi
    obtain ⟨he, hv', xs', i5, ird, irow, -⟩ := hi
    exact ⟨he, h.fr.trans hk.fr, ird, h.env.fr2 g hk.fr, h.ptr.fr2 g hk.fr, Nat.le_trans h.size hk.fr.size, hv', xs', i5, irow⟩

/-- How long is what the reader has left? -/
def rdSize (w : World) (B : Nat) : Nat := match w.cell? ⟨B, 0, none⟩ with | some (.string t) => t.size | _ => 0
theorem RdAt.size {w : World} {B : Nat} {t : ByteArray} (h : RdAt w B t) : rdSize w B = t.size := by unfold rdSize; rw [h.cell]

/-- How what stands between two brackets ends. -/
structure ListR (base B V : Nat) (a b c ne : Value) (s : ByteArray) (w : World) (e : Ending) (w' : World) : Prop where
  fr : Fr2 base B V w w'
  is : match listL false 91 93 s.data.toList with
    | some p => e = .returned (.tuple #[]) ∧ RdAt w' B ⟨p.2.2.toArray⟩ ∧ ∃ hv xs, At5 w' V a b c hv ne ∧ RowOf base w' hv none p.1 xs
    | none => e = stop 6

set_option maxRecDepth 100000 in
set_option maxHeartbeats 4000000 in
theorem listR_t (base B V R : Nat) (a b c ne : Value) (s : ByteArray) (w : World) (g : Geo base B V R) (hsz : s.size ≤ 4096)
    (CV : ∀ t : ByteArray, t.size < s.size → ∀ w, RdAt w B t → TEnv w → Calls Tryd.prog 16 #[.pointer (some ⟨B, 0, none⟩)] w (ValEnds B t w))
    (h : StR base B V R a b c ne w [] s w) (hb : headB s 91 = true) :
    Calls Tryd.prog 32 #[.pointer (some ⟨B, 0, none⟩), .int .u8 91, .int .u8 93, .func (.func 33) #[] #[.pointer (some ⟨V, 0, none⟩), .pointer (some ⟨R, 0, none⟩)]] w fun e w' => ListR base B V a b c ne s w e w' := by
  have C := Lib.hid (take_any B s 91 91 (by rfl) w h.rd)
  rw [hb] at C
  simp only [if_true] at C
  obtain ⟨l, hl⟩ : ∃ l, s.data.toList = 91 :: l := by
    rw [headB_cons] at hb
    cases hs : s.data.toList with
    | nil => rw [hs] at hb; cases hb
    | cons x l => rw [hs] at hb; exact ⟨l, by rw [show x = 91 by simpa using hb]⟩
  have hrl : (restB s).data.toList = l := by rw [restB_list, hl]; rfl
  have hss : s.size = l.length + 1 := by rw [Lib.size_eq, hl]; rfl
  have h1 := h.set g (restB s)
  obtain ⟨W1, hW1⟩ : ∃ W1, w.setCell ⟨B, 0, none⟩ (.string (restB s)) = W1 := ⟨_, rfl⟩
  obtain ⟨t, ht⟩ : ∃ t, restB s = t := ⟨_, rfl⟩
  rw [hW1] at C h1
  rw [ht] at h1 hrl
  have hts : t.size = l.length := by rw [Lib.size_eq, hrl]
  have HO : listL false 91 93 s.data.toList = if l.head? = some 93 then some ([], [], l.tail) else itemsL rdL false 93 (l.length + 1) [] [] l := by rw [hl, listL, if_pos rfl]
  obtain ⟨O, hO⟩ : ∃ O, listL false 91 93 s.data.toList = O := ⟨_, rfl⟩
  rw [hO] at HO
  have HOO := Lib.hid hO
  have HOE := Lib.hid HO
  have G := Lib.hid g
  have H1 := Lib.hid h1
  have HSZ := Lib.hid hsz
  have HTL := Lib.hid hrl
  have HTS := Lib.hid hts
  have HSS := Lib.hid hss
  have HCV := Lib.hid CV
  have D := Lib.hid (at_any B t 93 93 (by rfl) W1 h1.rd)
  cases hq : headB t 93 with
  | true =>
    rw [hq] at D
    have HSTART := Lib.hid (show ∃ (ts' : List Val) (t' : ByteArray) (f' : Nat), StR base B V R a b c ne w ts' t' W1 ∧ tailL rdL false 93 f' ts' [] t'.data.toList = O ∧ t'.size ≤ f' ∧ ts'.length + t'.size ≤ 4096 ∧ t'.size < s.size from by
      refine ⟨[], t, t.size, h1, ?_, Nat.le_refl _, by simp; omega, by omega⟩
      rw [HO, hrl]
      rw [headB_cons, hrl] at hq
      cases l with
      | nil => cases hq
      | cons x l => rw [tailL, if_pos (by simpa using hq), if_pos (by rw [List.head?_cons, show x = 93 by simpa using hq])]; rfl)
    clear hb hl hrl hss h1 hW1 ht hts HO hO hsz CV h g hq
    go_enter Tryd.func32, Tryd.ntmps32
    go_wp2_with fail
    refine C.out.mono ?_
    rintro e w1 ⟨rfl, rfl⟩
    go_wp2_with fail
    refine D.out.mono ?_
    rintro e w2 ⟨rfl, rfl⟩
    go_wp2_with fail
    go_loopw [20] (fun _ wr => ∃ (ts' : List Val) (t' : ByteArray) (f' : Nat), StR base B V R a b c ne w ts' t' wr ∧ tailL rdL false 93 f' ts' [] t'.data.toList = O ∧ t'.size ≤ f' ∧ ts'.length + t'.size ≤ 4096 ∧ t'.size < s.size) (fun _ wr => rdSize wr B)
    case atStart => exact HSTART.out
    case round =>
      obtain ⟨ts', t', f', hS, hT, hf, hn, hlt⟩ := hrel
      have HS := Lib.hid hS
      have HT := Lib.hid hT
      have HF := Lib.hid hf
      have HN := Lib.hid hn
      have HLT := Lib.hid hlt
      have HM := Lib.hid hS.rd.size
      have D1 := Lib.hid (at_any B t' 93 93 (by rfl) wr hS.rd)
      cases hq : headB t' 93 with
      | true =>
        rw [hq] at D1
        have C1 := Lib.hid (take_any B t' 93 93 (by rfl) wr hS.rd)
        rw [hq] at C1
        simp only [if_true] at C1
        have HR := Lib.hid (show O = some (ts', [], (restB t').data.toList) by
          rw [← hT, restB_list]
          rw [headB_cons] at hq
          cases hl : t'.data.toList with
          | nil => rw [hl] at hq; cases hq
          | cons x l => rw [hl] at hq; rw [tailL, if_pos (by simpa using hq)]; rfl)
        clear hS hT hf hn hlt hq
        go_wp2_with fail
        refine D1.out.mono ?_
        rintro e w5 ⟨rfl, rfl⟩
        go_wp2_with fail
        refine C1.out.mono ?_
        rintro e w6 ⟨rfl, rfl⟩
        go_wp2_with fail
        go_end0
        have hst := HS.out.set G.out (restB t')
        obtain ⟨hv, xs, h5, hr⟩ := hst.row
        refine ⟨hst.fr, ?_⟩
        rw [HOO.out, HR.out]
        refine ⟨rfl, ?_, hv, xs, h5, hr⟩
        have er := bytes_eq (restB t') _ rfl
        rw [← er]
        exact hst.rd
      | false =>
        rw [hq] at D1
        have C1 := Lib.hid (take_any B t' 44 44 (by rfl) wr hS.rd)
        cases h4 : headB t' 44 with
        | false =>
          rw [h4] at C1
          simp only [Bool.false_eq_true, if_false, stop] at C1
          have HR := Lib.hid (show O = none by
            rw [← hT]
            rw [headB_cons] at hq h4
            cases hl : t'.data.toList with
            | nil => rfl
            | cons x l => rw [hl] at hq h4; rw [tailL, if_neg (by simpa using hq), if_neg (by simpa using h4)])
          clear hS hT hf hn hlt hq h4
          go_wp2_with fail
          refine D1.out.mono ?_
          rintro e w5 ⟨rfl, rfl⟩
          go_wp2_with fail
          refine C1.out.mono ?_
          rintro e w6 ⟨rfl, rfl⟩
          go_wp2_with fail
          exact ⟨rfl, ⟨HS.out.fr, by rw [HOO.out, HR.out]; rfl⟩⟩
        | true =>
          rw [h4] at C1
          simp only [if_true] at C1
          have hst := hS.set G.out (restB t')
          have hrs : (restB t').size + 1 = t'.size := by
            rw [headB_cons] at h4
            have e1 := restB_list t'
            have e2 := Lib.size_eq t'
            have e3 := Lib.size_eq (restB t')
            cases hl : t'.data.toList with
            | nil => rw [hl] at h4; cases h4
            | cons x l => rw [e1, hl] at e3; rw [hl] at e2; simp at e2 e3; omega
          obtain ⟨f2, rfl⟩ : ∃ f2, f' = f2 + 1 := ⟨f' - 1, by omega⟩
          have hit : O = match rdL (restB t').data.toList with | none => none | some (x, u) => tailL rdL false 93 f2 (ts' ++ [x]) [] u := by
            rw [← hT, ← itemsL_row, restB_list]
            rw [headB_cons] at hq h4
            cases hl : t'.data.toList with
            | nil => rw [hl] at h4; cases h4
            | cons x l => rw [hl] at hq h4; rw [tailL, if_neg (by simpa using hq), if_pos (by simpa using h4)]; rfl
          have HIT := Lib.hid hit
          obtain ⟨u, hu⟩ : ∃ u, restB t' = u := ⟨_, rfl⟩
          obtain ⟨W2, hW2⟩ : ∃ W2, wr.setCell ⟨B, 0, none⟩ (.string (restB t')) = W2 := ⟨_, rfl⟩
          rw [hW2] at C1 hst
          rw [hu] at hst hrs HIT
          have E := Lib.hid (oneR base B V R a b c ne w ts' u W2 G.out hst (by omega) (HCV.out u (by omega)))
          have HRS := Lib.hid hrs
          clear hS hT hf hn hlt hq h4 hit hW2 hu hst hrs
          go_wp2_with fail
          refine D1.out.mono ?_
          rintro e w5 ⟨rfl, rfl⟩
          go_wp2_with fail
          refine C1.out.mono ?_
          rintro e w6 ⟨rfl, rfl⟩
          go_wp2_with fail
          refine E.out.mono ?_
          intro e w7 h7
          have hi7 := h7.is
          have H7 := Lib.hid h7.fr
          cases ho : rdL u.data.toList with
          | none =>
            rw [ho] at hi7
            obtain rfl : e = .panicked [{ v := .iface 26 (.int .i64 6), recovered := false }] := hi7
            have HR := Lib.hid (show O = none by rw [HIT.out, ho])
            clear ho h7
            go_wp2_with fail
            exact ⟨rfl, ⟨H7.out, by rw [HOO.out, HR.out]; rfl⟩⟩
          | some p =>
            rw [ho] at hi7
            obtain ⟨rfl, hst7⟩ := hi7
            have HS7 := Lib.hid hst7
            have hsh := rdL_shorter _ _ _ ho
            have hps : (⟨p.2.toArray⟩ : ByteArray).size = p.2.length := by rw [Lib.size_eq]
            have hus := Lib.size_eq u
            have HR := Lib.hid (show tailL rdL false 93 f2 (ts' ++ [p.1]) [] (⟨p.2.toArray⟩ : ByteArray).data.toList = O by rw [HIT.out, ho])
            have HQ := Lib.hid (show (⟨p.2.toArray⟩ : ByteArray).size ≤ f2 ∧ (ts' ++ [p.1]).length + (⟨p.2.toArray⟩ : ByteArray).size ≤ 4096 ∧ (⟨p.2.toArray⟩ : ByteArray).size < s.size ∧ (⟨p.2.toArray⟩ : ByteArray).size < t'.size by
              have h1 := HF.out
              have h2 := HN.out
              have h3 := HRS.out
              have h4 := HLT.out
              rw [List.length_append, List.length_singleton, hps]
              omega)
            clear ho h7 hst7 hsh hps hus
            go_wp2_with fail
            go_roundw
            case rel => exact ⟨_, _, _, HS7.out, HR.out, HQ.out.1, HQ.out.2.1, HQ.out.2.2.1⟩
            case measure => rw [HM.out, HS7.out.rd.size]; exact HQ.out.2.2.2
  | false =>
    rw [hq] at D
    have E0 := Lib.hid (oneR base B V R a b c ne w [] t W1 g h1 (by simp) (CV t (by omega)))
    have HIT0 := Lib.hid (show O = match rdL t.data.toList with | none => none | some (x, u) => tailL rdL false 93 l.length [x] [] u by
      rw [HO, hrl]
      rw [headB_cons, hrl] at hq
      rw [if_neg (by
        cases l with
        | nil => simp
        | cons x l => simpa using hq), itemsL_row]
      rfl)
    clear hb hl hrl hss h1 hW1 ht hO HO hsz CV h g hq
    go_enter Tryd.func32, Tryd.ntmps32
    go_wp2_with fail
    refine C.out.mono ?_
    rintro e w1 ⟨rfl, rfl⟩
    go_wp2_with fail
    refine D.out.mono ?_
    rintro e w2 ⟨rfl, rfl⟩
    go_wp2_with fail
    refine E0.out.mono ?_
    intro e w3 h3
    have hi3 := h3.is
    have H3 := Lib.hid h3.fr
    cases ho : rdL t.data.toList with
    | none =>
      rw [ho] at hi3
      obtain rfl : e = .panicked [{ v := .iface 26 (.int .i64 6), recovered := false }] := hi3
      have HR := Lib.hid (show O = none by rw [HIT0.out, ho])
      clear ho h3
      go_wp2_with fail
      exact ⟨rfl, ⟨H3.out, by rw [HOO.out, HR.out]; rfl⟩⟩
    | some p =>
      rw [ho] at hi3
      obtain ⟨rfl, hst3⟩ := hi3
      have HSTART := Lib.hid (show ∃ (ts' : List Val) (t' : ByteArray) (f' : Nat), StR base B V R a b c ne w ts' t' w3 ∧ tailL rdL false 93 f' ts' [] t'.data.toList = O ∧ t'.size ≤ f' ∧ ts'.length + t'.size ≤ 4096 ∧ t'.size < s.size from by
        have hsh := rdL_shorter _ _ _ ho
        have hps : (⟨p.2.toArray⟩ : ByteArray).size = p.2.length := by rw [Lib.size_eq]
        have hus := Lib.size_eq t
        have e1 := HTS.out
        have e2 := HSS.out
        have e3 := HSZ.out
        refine ⟨[] ++ [p.1], ⟨p.2.toArray⟩, l.length, hst3, by rw [HIT0.out, ho]; rfl, by rw [hps]; omega, by simp only [List.nil_append, List.length_singleton]; rw [hps]; omega, by rw [hps]; omega⟩)
      clear ho h3 hst3 hts
      go_wp2_with fail
      go_loopw [20] (fun _ wr => ∃ (ts' : List Val) (t' : ByteArray) (f' : Nat), StR base B V R a b c ne w ts' t' wr ∧ tailL rdL false 93 f' ts' [] t'.data.toList = O ∧ t'.size ≤ f' ∧ ts'.length + t'.size ≤ 4096 ∧ t'.size < s.size) (fun _ wr => rdSize wr B)
      case atStart => exact HSTART.out
      case round =>
        obtain ⟨ts', t', f', hS, hT, hf, hn, hlt⟩ := hrel
        have HS := Lib.hid hS
        have HT := Lib.hid hT
        have HF := Lib.hid hf
        have HN := Lib.hid hn
        have HLT := Lib.hid hlt
        have HM := Lib.hid hS.rd.size
        have D1 := Lib.hid (at_any B t' 93 93 (by rfl) wr hS.rd)
        cases hq : headB t' 93 with
        | true =>
          rw [hq] at D1
          have C1 := Lib.hid (take_any B t' 93 93 (by rfl) wr hS.rd)
          rw [hq] at C1
          simp only [if_true] at C1
          have HR := Lib.hid (show O = some (ts', [], (restB t').data.toList) by
            rw [← hT, restB_list]
            rw [headB_cons] at hq
            cases hl : t'.data.toList with
            | nil => rw [hl] at hq; cases hq
            | cons x l => rw [hl] at hq; rw [tailL, if_pos (by simpa using hq)]; rfl)
          clear hS hT hf hn hlt hq
          go_wp2_with fail
          refine D1.out.mono ?_
          rintro e w5 ⟨rfl, rfl⟩
          go_wp2_with fail
          refine C1.out.mono ?_
          rintro e w6 ⟨rfl, rfl⟩
          go_wp2_with fail
          go_end0
          have hst := HS.out.set G.out (restB t')
          obtain ⟨hv, xs, h5, hr⟩ := hst.row
          refine ⟨hst.fr, ?_⟩
          rw [HOO.out, HR.out]
          refine ⟨rfl, ?_, hv, xs, h5, hr⟩
          have er := bytes_eq (restB t') _ rfl
          rw [← er]
          exact hst.rd
        | false =>
          rw [hq] at D1
          have C1 := Lib.hid (take_any B t' 44 44 (by rfl) wr hS.rd)
          cases h4 : headB t' 44 with
          | false =>
            rw [h4] at C1
            simp only [Bool.false_eq_true, if_false, stop] at C1
            have HR := Lib.hid (show O = none by
              rw [← hT]
              rw [headB_cons] at hq h4
              cases hl : t'.data.toList with
              | nil => rfl
              | cons x l => rw [hl] at hq h4; rw [tailL, if_neg (by simpa using hq), if_neg (by simpa using h4)])
            clear hS hT hf hn hlt hq h4
            go_wp2_with fail
            refine D1.out.mono ?_
            rintro e w5 ⟨rfl, rfl⟩
            go_wp2_with fail
            refine C1.out.mono ?_
            rintro e w6 ⟨rfl, rfl⟩
            go_wp2_with fail
            exact ⟨rfl, ⟨HS.out.fr, by rw [HOO.out, HR.out]; rfl⟩⟩
          | true =>
            rw [h4] at C1
            simp only [if_true] at C1
            have hst := hS.set G.out (restB t')
            have hrs : (restB t').size + 1 = t'.size := by
              rw [headB_cons] at h4
              have e1 := restB_list t'
              have e2 := Lib.size_eq t'
              have e3 := Lib.size_eq (restB t')
              cases hl : t'.data.toList with
              | nil => rw [hl] at h4; cases h4
              | cons x l => rw [e1, hl] at e3; rw [hl] at e2; simp at e2 e3; omega
            obtain ⟨f2, rfl⟩ : ∃ f2, f' = f2 + 1 := ⟨f' - 1, by omega⟩
            have hit : O = match rdL (restB t').data.toList with | none => none | some (x, u) => tailL rdL false 93 f2 (ts' ++ [x]) [] u := by
              rw [← hT, ← itemsL_row, restB_list]
              rw [headB_cons] at hq h4
              cases hl : t'.data.toList with
              | nil => rw [hl] at h4; cases h4
              | cons x l => rw [hl] at hq h4; rw [tailL, if_neg (by simpa using hq), if_pos (by simpa using h4)]; rfl
            have HIT := Lib.hid hit
            obtain ⟨u, hu⟩ : ∃ u, restB t' = u := ⟨_, rfl⟩
            obtain ⟨W2, hW2⟩ : ∃ W2, wr.setCell ⟨B, 0, none⟩ (.string (restB t')) = W2 := ⟨_, rfl⟩
            rw [hW2] at C1 hst
            rw [hu] at hst hrs HIT
            have E := Lib.hid (oneR base B V R a b c ne w ts' u W2 G.out hst (by omega) (HCV.out u (by omega)))
            have HRS := Lib.hid hrs
            clear hS hT hf hn hlt hq h4 hit hW2 hu hst hrs
            go_wp2_with fail
            refine D1.out.mono ?_
            rintro e w5 ⟨rfl, rfl⟩
            go_wp2_with fail
            refine C1.out.mono ?_
            rintro e w6 ⟨rfl, rfl⟩
            go_wp2_with fail
            refine E.out.mono ?_
            intro e w7 h7
            have hi7 := h7.is
            have H7 := Lib.hid h7.fr
            cases ho : rdL u.data.toList with
            | none =>
              rw [ho] at hi7
              obtain rfl : e = .panicked [{ v := .iface 26 (.int .i64 6), recovered := false }] := hi7
              have HR := Lib.hid (show O = none by rw [HIT.out, ho])
              clear ho h7
              go_wp2_with fail
              exact ⟨rfl, ⟨H7.out, by rw [HOO.out, HR.out]; rfl⟩⟩
            | some p =>
              rw [ho] at hi7
              obtain ⟨rfl, hst7⟩ := hi7
              have HS7 := Lib.hid hst7
              have hsh := rdL_shorter _ _ _ ho
              have hps : (⟨p.2.toArray⟩ : ByteArray).size = p.2.length := by rw [Lib.size_eq]
              have hus := Lib.size_eq u
              have HR := Lib.hid (show tailL rdL false 93 f2 (ts' ++ [p.1]) [] (⟨p.2.toArray⟩ : ByteArray).data.toList = O by rw [HIT.out, ho])
              have HQ := Lib.hid (show (⟨p.2.toArray⟩ : ByteArray).size ≤ f2 ∧ (ts' ++ [p.1]).length + (⟨p.2.toArray⟩ : ByteArray).size ≤ 4096 ∧ (⟨p.2.toArray⟩ : ByteArray).size < s.size ∧ (⟨p.2.toArray⟩ : ByteArray).size < t'.size by
                have h1 := HF.out
                have h2 := HN.out
                have h3 := HRS.out
                have h4 := HLT.out
                rw [List.length_append, List.length_singleton, hps]
                omega)
              clear ho h7 hst7 hsh hps hus
              go_wp2_with fail
              go_roundw
              case rel => exact ⟨_, _, _, HS7.out, HR.out, HQ.out.1, HQ.out.2.1, HQ.out.2.2.1⟩
              case measure => rw [HM.out, HS7.out.rd.size]; exact HQ.out.2.2.2
end Go.Proofs.YtgkapipiegfmhaaDoor
