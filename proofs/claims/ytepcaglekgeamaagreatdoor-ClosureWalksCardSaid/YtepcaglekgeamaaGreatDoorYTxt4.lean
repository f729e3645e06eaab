/-
  The program's reader: what stands between two brackets as a plain function, and the loop over it for a row. Conditions: the reader's value by its contract.
  The program's reader: a member's name, by a contract. Conditions: the package-level variables as TEnv says.
  The program's reader: one member of an object more, by a contract. Conditions: the reader's value by its contract.
-/
import Derived.Test.YtepcaglekgeamaaGreatDoorYTxt3
namespace Go.Proofs.YtepcaglekgeamaaGreatDoor
open Go.RowKit

def tailL (rd : List UInt8 → Option (Val × List UInt8)) (four : Bool) (en : UInt8) (f : Nat) (items : List Val) (names : List ByteArray) : List UInt8 → Option (List Val × List ByteArray × List UInt8)
  | [] => none
  | c :: r => if c = en then some (items, names, r) else if c = 44 then itemsL rd four en f items names r else none

theorem itemsL_one (rd : List UInt8 → Option (Val × List UInt8)) (four : Bool) (en : UInt8) (f : Nat) (items : List Val) (names : List ByteArray) (s : List UInt8) :
    itemsL rd four en (f + 1) items names s = match nameL four names s with
      | none => none
      | some (names', s') => match rd s' with
        | none => none
        | some (x, t) => tailL rd four en f (items ++ [x]) names' t := by
  rw [itemsL]
  cases nameL four names s with
  | none => rfl
  | some p =>
    obtain ⟨names', s'⟩ := p
    simp only
    cases rd s' with
    | none => rfl
    | some q =>
      obtain ⟨x, t⟩ := q
      cases t with
      | nil => rfl
      | cons c r => rfl

theorem itemsL_row (rd : List UInt8 → Option (Val × List UInt8)) (en : UInt8) (f : Nat) (items : List Val) (names : List ByteArray) (s : List UInt8) :
    itemsL rd false en (f + 1) items names s = match rd s with | none => none | some (x, t) => tailL rd false en f (items ++ [x]) names t := by
  rw [itemsL_one]; rfl

def listL (four : Bool) (be en : UInt8) : List UInt8 → Option (List Val × List ByteArray × List UInt8)
  | [] => none
  | c :: l => if c = be then (if l.head? = some en then some ([], [], l.tail) else itemsL rdL four en (l.length + 1) [] [] l) else none

theorem rdL_shorter (s : List UInt8) (x : Val) (r : List UInt8) (h : rdL s = some (x, r)) : r.length ≤ s.length := by
  have := parseL_sound _ _ _ _ h
  rw [this]; simp

structure Geo (base B V R : Nat) : Prop where
  hB : 13 ≤ B
  hV : 13 ≤ V
  hBb : B < base
  hVb : V < base
  hRb : R < base
  hVB : V ≠ B
  hRB : R ≠ B
  hRV : R ≠ V

theorem TEnv.fr2 {base B V R : Nat} {w w' : World} (h : TEnv w) (g : Geo base B V R) (f : Fr2 base B V w w') : TEnv w' :=
  h.keep f.size fun k hk => f.block k (Nat.lt_trans (Nat.lt_of_lt_of_le hk g.hB) g.hBb) (fun e => by have := g.hB; omega) (fun e => by have := g.hV; omega)

theorem PtrAt.fr2 {base B V R : Nat} {w w' : World} (h : PtrAt w R B) (g : Geo base B V R) (f : Fr2 base B V w w') : PtrAt w' R B := (f.block R g.hRb g.hRB g.hRV).trans h

theorem Fr2.set {base B V : Nat} (w : World) (o : Nat) (u : Value) : Fr2 base B V w (w.setCell ⟨B, o, none⟩ u) :=
  ⟨rfl, rfl, rfl, by rw [setCell_size]; exact Nat.le_refl _, fun _ _ h _ => Below.heap_setCell _ _ _ _ h⟩

structure StR (base B V R : Nat) (a b c ne : Value) (w0 : World) (ts : List Val) (t : ByteArray) (w : World) : Prop where
  fr : Fr2 base B V w0 w
  rd : RdAt w B t
  env : TEnv w
  ptr : PtrAt w R B
  size : base ≤ w.heap.size
  row : ∃ hv xs, At5 w V a b c hv ne ∧ RowOf base w hv none ts xs

theorem StR.set {base B V R : Nat} {a b c ne : Value} {w0 : World} {ts : List Val} {t : ByteArray} {w : World} (h : StR base B V R a b c ne w0 ts t w) (g : Geo base B V R) (r : ByteArray) :
    StR base B V R a b c ne w0 ts r (w.setCell ⟨B, 0, none⟩ (.string r)) := by
  have f := Fr2.set (base := base) (B := B) (V := V) w 0 (.string r)
  obtain ⟨hv, xs, h5, hr⟩ := h.row
  refine ⟨h.fr.trans f, h.rd.set r, h.env.fr2 g f, h.ptr.fr2 g f, by rw [setCell_size]; exact h.size, hv, xs, (Below.heap_setCell _ _ _ _ g.hVB).trans h5, hr.keep (fun k hk _ _ => Below.heap_setCell _ _ _ _ ?_) (Or.inl rfl)⟩
  have := g.hBb
  exact fun e => by rw [e] at hk; exact absurd hk (Nat.not_le_of_lt this)

structure OneR (base B V R : Nat) (a b c ne : Value) (w0 : World) (ts : List Val) (t : ByteArray) (e : Ending) (w' : World) : Prop where
  fr : Fr2 base B V w0 w'
  is : match rdL t.data.toList with
    | some p => e = .returned (.tuple #[]) ∧ StR base B V R a b c ne w0 (ts ++ [p.1]) ⟨p.2.toArray⟩ w'
    | none => e = stop 6

theorem oneR (base B V R : Nat) (a b c ne : Value) (w0 : World) (ts : List Val) (t : ByteArray) (w : World) (g : Geo base B V R) (h : StR base B V R a b c ne w0 ts t w) (hlen : ts.length ≤ 5000)
    (CV : ∀ w, RdAt w B t → TEnv w → Calls Tryz.prog 122 #[.pointer (some ⟨B, 0, none⟩)] w (ValEnds B t w)) :
    Calls Tryz.prog 158 #[.pointer (some ⟨V, 0, none⟩), .pointer (some ⟨R, 0, none⟩)] w fun e w' => OneR base B V R a b c ne w0 ts t e w' := by
  obtain ⟨hv, xs, h5, hr⟩ := h.row
  have key : Calls Tryz.prog 158 #[.pointer (some ⟨V, 0, none⟩), .pointer (some ⟨R, 0, none⟩)] w fun e w' => OneEnds base B V t ts a b c hv ne none w e w' := by
    cases ho : rdL t.data.toList with
    | none => exact row1_none base B V R t ts xs a b c hv ne w CV h.rd h.env g.hB g.hBb g.hVb g.hRb g.hVB g.hRB g.hRV h.size h5 h.ptr hr hlen ho
    | some p => exact row1_some base B V R t ts xs a b c hv ne w CV h.rd h.env g.hB g.hBb g.hVb g.hRb g.hVB g.hRB g.hRV h.size h5 h.ptr hr hlen p.1 p.2 ho
  refine key.mono fun e w' hk => ⟨h.fr.trans hk.fr, ?_⟩
  have hi := hk.is
  cases ho : rdL t.data.toList with
  | none => rw [ho] at hi; exact hi
  | some p =>
    rw [ho] at hi
    obtain ⟨he, hv', xs', i5, ird, irow, -⟩ := hi
    exact ⟨he, h.fr.trans hk.fr, ird, h.env.fr2 g hk.fr, h.ptr.fr2 g hk.fr, Nat.le_trans h.size hk.fr.size, hv', xs', i5, irow⟩

def rdSize (w : World) (B : Nat) : Nat := match w.cell? ⟨B, 0, none⟩ with | some (.string t) => t.size | _ => 0

theorem RdAt.size {w : World} {B : Nat} {t : ByteArray} (h : RdAt w B t) : rdSize w B = t.size := by unfold rdSize; rw [h.cell]

structure ListR (base B V : Nat) (a b c ne : Value) (s : ByteArray) (w : World) (e : Ending) (w' : World) : Prop where
  fr : Fr2 base B V w w'
  is : match listL false 91 93 s.data.toList with
    | some p => e = .returned (.tuple #[]) ∧ RdAt w' B ⟨p.2.2.toArray⟩ ∧ ∃ hv xs, At5 w' V a b c hv ne ∧ RowOf base w' hv none p.1 xs
    | none => e = stop 6

set_option maxRecDepth 100000 in
set_option maxHeartbeats 4000000 in
theorem listR_t (base B V R : Nat) (a b c ne : Value) (s : ByteArray) (w : World) (g : Geo base B V R) (hsz : s.size ≤ 4096)
    (CV : ∀ t : ByteArray, t.size < s.size → ∀ w, RdAt w B t → TEnv w → Calls Tryz.prog 122 #[.pointer (some ⟨B, 0, none⟩)] w (ValEnds B t w))
    (h : StR base B V R a b c ne w [] s w) (hb : headB s 91 = true) :
    Calls Tryz.prog 157 #[.pointer (some ⟨B, 0, none⟩), .int .u8 91, .int .u8 93, .func (.func 158) #[] #[.pointer (some ⟨V, 0, none⟩), .pointer (some ⟨R, 0, none⟩)]] w fun e w' => ListR base B V a b c ne s w e w' := by
  have C := Lib.hid (take_any B s 91 91 (by rfl) w h.rd)
  rw [hb] at C
  simp only [if_true] at C
  obtain ⟨l, hl⟩ : ∃ l, s.data.toList = 91 :: l := by
    rw [headB_cons] at hb
    cases hs : s.data.toList with
    | nil => rw [hs] at hb; cases hb
    | cons x l => rw [hs] at hb; exact ⟨l, by rw [show x = 91 by simpa using hb]⟩
  have hrl : (restB s).data.toList = l := by rw [restB_list, hl]; rfl
  have hss : s.size = l.length + 1 := by rw [Lib.size_eq, hl]; rfl
  have h1 := h.set g (restB s)
  obtain ⟨W1, hW1⟩ : ∃ W1, w.setCell ⟨B, 0, none⟩ (.string (restB s)) = W1 := ⟨_, rfl⟩
  obtain ⟨t, ht⟩ : ∃ t, restB s = t := ⟨_, rfl⟩
  rw [hW1] at C h1
  rw [ht] at h1 hrl
  have hts : t.size = l.length := by rw [Lib.size_eq, hrl]
  have HO : listL false 91 93 s.data.toList = if l.head? = some 93 then some ([], [], l.tail) else itemsL rdL false 93 (l.length + 1) [] [] l := by rw [hl, listL, if_pos rfl]
  obtain ⟨O, hO⟩ : ∃ O, listL false 91 93 s.data.toList = O := ⟨_, rfl⟩
  rw [hO] at HO
  have HOO := Lib.hid hO
  have HOE := Lib.hid HO
  have G := Lib.hid g
  have H1 := Lib.hid h1
  have HSZ := Lib.hid hsz
  have HTL := Lib.hid hrl
  have HTS := Lib.hid hts
  have HSS := Lib.hid hss
  have HCV := Lib.hid CV
  have D := Lib.hid (at_any B t 93 93 (by rfl) W1 h1.rd)
  cases hq : headB t 93 with
  | true =>
    rw [hq] at D
    have HSTART := Lib.hid (show ∃ (ts' : List Val) (t' : ByteArray) (f' : Nat), StR base B V R a b c ne w ts' t' W1 ∧ tailL rdL false 93 f' ts' [] t'.data.toList = O ∧ t'.size ≤ f' ∧ ts'.length + t'.size ≤ 4096 ∧ t'.size < s.size from by
      refine ⟨[], t, t.size, h1, ?_, Nat.le_refl _, by simp; omega, by omega⟩
      rw [HO, hrl]
      rw [headB_cons, hrl] at hq
      cases l with
      | nil => cases hq
      | cons x l => rw [tailL, if_pos (by simpa using hq), if_pos (by rw [List.head?_cons, show x = 93 by simpa using hq])]; rfl)
    clear hb hl hrl hss h1 hW1 ht hts HO hO hsz CV h g hq
    go_enter Tryz.func157, Tryz.ntmps157
    go_wp2_with fail
    refine C.out.mono ?_
    rintro e w1 ⟨rfl, rfl⟩
    go_wp2_with fail
    refine D.out.mono ?_
    rintro e w2 ⟨rfl, rfl⟩
    go_wp2_with fail
    go_loopw [20] (fun _ wr => ∃ (ts' : List Val) (t' : ByteArray) (f' : Nat), StR base B V R a b c ne w ts' t' wr ∧ tailL rdL false 93 f' ts' [] t'.data.toList = O ∧ t'.size ≤ f' ∧ ts'.length + t'.size ≤ 4096 ∧ t'.size < s.size) (fun _ wr => rdSize wr B)
    case atStart => exact HSTART.out
    case round =>
      obtain ⟨ts', t', f', hS, hT, hf, hn, hlt⟩ := hrel
      have HS := Lib.hid hS
      have HT := Lib.hid hT
      have HF := Lib.hid hf
      have HN := Lib.hid hn
      have HLT := Lib.hid hlt
      have HM := Lib.hid hS.rd.size
      have D1 := Lib.hid (at_any B t' 93 93 (by rfl) wr hS.rd)
      cases hq : headB t' 93 with
      | true =>
        rw [hq] at D1
        have C1 := Lib.hid (take_any B t' 93 93 (by rfl) wr hS.rd)
        rw [hq] at C1
        simp only [if_true] at C1
        have HR := Lib.hid (show O = some (ts', [], (restB t').data.toList) by
          rw [← hT, restB_list]
          rw [headB_cons] at hq
          cases hl : t'.data.toList with
          | nil => rw [hl] at hq; cases hq
          | cons x l => rw [hl] at hq; rw [tailL, if_pos (by simpa using hq)]; rfl)
        clear hS hT hf hn hlt hq
        go_wp2_with fail
        refine D1.out.mono ?_
        rintro e w5 ⟨rfl, rfl⟩
        go_wp2_with fail
        refine C1.out.mono ?_
        rintro e w6 ⟨rfl, rfl⟩
        go_wp2_with fail
        go_end0
        have hst := HS.out.set G.out (restB t')
        obtain ⟨hv, xs, h5, hr⟩ := hst.row
        refine ⟨hst.fr, ?_⟩
        rw [HOO.out, HR.out]
        refine ⟨rfl, ?_, hv, xs, h5, hr⟩
        have er := bytes_eq (restB t') _ rfl
        rw [← er]
        exact hst.rd
      | false =>
        rw [hq] at D1
        have C1 := Lib.hid (take_any B t' 44 44 (by rfl) wr hS.rd)
        cases h4 : headB t' 44 with
        | false =>
          rw [h4] at C1
          simp only [Bool.false_eq_true, if_false, stop] at C1
          have HR := Lib.hid (show O = none by
            rw [← hT]
            rw [headB_cons] at hq h4
            cases hl : t'.data.toList with
            | nil => rfl
            | cons x l => rw [hl] at hq h4; rw [tailL, if_neg (by simpa using hq), if_neg (by simpa using h4)])
          clear hS hT hf hn hlt hq h4
          go_wp2_with fail
          refine D1.out.mono ?_
          rintro e w5 ⟨rfl, rfl⟩
          go_wp2_with fail
          refine C1.out.mono ?_
          rintro e w6 ⟨rfl, rfl⟩
          go_wp2_with fail
          exact ⟨rfl, ⟨HS.out.fr, by rw [HOO.out, HR.out]; rfl⟩⟩
        | true =>
          rw [h4] at C1
          simp only [if_true] at C1
          have hst := hS.set G.out (restB t')
          have hrs : (restB t').size + 1 = t'.size := by
            rw [headB_cons] at h4
            have e1 := restB_list t'
            have e2 := Lib.size_eq t'
            have e3 := Lib.size_eq (restB t')
            cases hl : t'.data.toList with
            | nil => rw [hl] at h4; cases h4
            | cons x l => rw [e1, hl] at e3; rw [hl] at e2; simp at e2 e3; omega
          obtain ⟨f2, rfl⟩ : ∃ f2, f' = f2 + 1 := ⟨f' - 1, by omega⟩
          have hit : O = match rdL (restB t').data.toList with | none => none | some (x, u) => tailL rdL false 93 f2 (ts' ++ [x]) [] u := by
            rw [← hT, ← itemsL_row, restB_list]
            rw [headB_cons] at hq h4
            cases hl : t'.data.toList with
            | nil => rw [hl] at h4; cases h4
            | cons x l => rw [hl] at hq h4; rw [tailL, if_neg (by simpa using hq), if_pos (by simpa using h4)]; rfl
          have HIT := Lib.hid hit
          obtain ⟨u, hu⟩ : ∃ u, restB t' = u := ⟨_, rfl⟩
          obtain ⟨W2, hW2⟩ : ∃ W2, wr.setCell ⟨B, 0, none⟩ (.string (restB t')) = W2 := ⟨_, rfl⟩
          rw [hW2] at C1 hst
          rw [hu] at hst hrs HIT
          have E := Lib.hid (oneR base B V R a b c ne w ts' u W2 G.out hst (by omega) (HCV.out u (by omega)))
          have HRS := Lib.hid hrs
          clear hS hT hf hn hlt hq h4 hit hW2 hu hst hrs
          go_wp2_with fail
          refine D1.out.mono ?_
          rintro e w5 ⟨rfl, rfl⟩
          go_wp2_with fail
          refine C1.out.mono ?_
          rintro e w6 ⟨rfl, rfl⟩
          go_wp2_with fail
          refine E.out.mono ?_
          intro e w7 h7
          have hi7 := h7.is
          have H7 := Lib.hid h7.fr
          cases ho : rdL u.data.toList with
          | none =>
            rw [ho] at hi7
            obtain rfl : e = .panicked [{ v := .iface 24 (.int .i64 6), recovered := false }] := hi7
            have HR := Lib.hid (show O = none by rw [HIT.out, ho])
            clear ho h7
            go_wp2_with fail
            exact ⟨rfl, ⟨H7.out, by rw [HOO.out, HR.out]; rfl⟩⟩
          | some p =>
            rw [ho] at hi7
            obtain ⟨rfl, hst7⟩ := hi7
            have HS7 := Lib.hid hst7
            have hsh := rdL_shorter _ _ _ ho
            have hps : (⟨p.2.toArray⟩ : ByteArray).size = p.2.length := by rw [Lib.size_eq]
            have hus := Lib.size_eq u
            have HR := Lib.hid (show tailL rdL false 93 f2 (ts' ++ [p.1]) [] (⟨p.2.toArray⟩ : ByteArray).data.toList = O by rw [HIT.out, ho])
            have HQ := Lib.hid (show (⟨p.2.toArray⟩ : ByteArray).size ≤ f2 ∧ (ts' ++ [p.1]).length + (⟨p.2.toArray⟩ : ByteArray).size ≤ 4096 ∧ (⟨p.2.toArray⟩ : ByteArray).size < s.size ∧ (⟨p.2.toArray⟩ : ByteArray).size < t'.size by
              have h1 := HF.out
              have h2 := HN.out
              have h3 := HRS.out
              have h4 := HLT.out
              rw [List.length_append, List.length_singleton, hps]
              omega)
            clear ho h7 hst7 hsh hps hus
            go_wp2_with fail
            go_roundw
            case rel => exact ⟨_, _, _, HS7.out, HR.out, HQ.out.1, HQ.out.2.1, HQ.out.2.2.1⟩
            case measure => rw [HM.out, HS7.out.rd.size]; exact HQ.out.2.2.2
  | false =>
    rw [hq] at D
    have E0 := Lib.hid (oneR base B V R a b c ne w [] t W1 g h1 (by simp) (CV t (by omega)))
    have HIT0 := Lib.hid (show O = match rdL t.data.toList with | none => none | some (x, u) => tailL rdL false 93 l.length [x] [] u by
      rw [HO, hrl]
      rw [headB_cons, hrl] at hq
      rw [if_neg (by
        cases l with
        | nil => simp
        | cons x l => simpa using hq), itemsL_row]
      rfl)
    clear hb hl hrl hss h1 hW1 ht hO HO hsz CV h g hq
    go_enter Tryz.func157, Tryz.ntmps157
    go_wp2_with fail
    refine C.out.mono ?_
    rintro e w1 ⟨rfl, rfl⟩
    go_wp2_with fail
    refine D.out.mono ?_
    rintro e w2 ⟨rfl, rfl⟩
    go_wp2_with fail
    refine E0.out.mono ?_
    intro e w3 h3
    have hi3 := h3.is
    have H3 := Lib.hid h3.fr
    cases ho : rdL t.data.toList with
    | none =>
      rw [ho] at hi3
      obtain rfl : e = .panicked [{ v := .iface 24 (.int .i64 6), recovered := false }] := hi3
      have HR := Lib.hid (show O = none by rw [HIT0.out, ho])
      clear ho h3
      go_wp2_with fail
      exact ⟨rfl, ⟨H3.out, by rw [HOO.out, HR.out]; rfl⟩⟩
    | some p =>
      rw [ho] at hi3
      obtain ⟨rfl, hst3⟩ := hi3
      have HSTART := Lib.hid (show ∃ (ts' : List Val) (t' : ByteArray) (f' : Nat), StR base B V R a b c ne w ts' t' w3 ∧ tailL rdL false 93 f' ts' [] t'.data.toList = O ∧ t'.size ≤ f' ∧ ts'.length + t'.size ≤ 4096 ∧ t'.size < s.size from by
        have hsh := rdL_shorter _ _ _ ho
        have hps : (⟨p.2.toArray⟩ : ByteArray).size = p.2.length := by rw [Lib.size_eq]
        have hus := Lib.size_eq t
        have e1 := HTS.out
        have e2 := HSS.out
        have e3 := HSZ.out
        refine ⟨[] ++ [p.1], ⟨p.2.toArray⟩, l.length, hst3, by rw [HIT0.out, ho]; rfl, by rw [hps]; omega, by simp only [List.nil_append, List.length_singleton]; rw [hps]; omega, by rw [hps]; omega⟩)
      clear ho h3 hst3 hts
      go_wp2_with fail
      go_loopw [20] (fun _ wr => ∃ (ts' : List Val) (t' : ByteArray) (f' : Nat), StR base B V R a b c ne w ts' t' wr ∧ tailL rdL false 93 f' ts' [] t'.data.toList = O ∧ t'.size ≤ f' ∧ ts'.length + t'.size ≤ 4096 ∧ t'.size < s.size) (fun _ wr => rdSize wr B)
      case atStart => exact HSTART.out
      case round =>
        obtain ⟨ts', t', f', hS, hT, hf, hn, hlt⟩ := hrel
        have HS := Lib.hid hS
        have HT := Lib.hid hT
        have HF := Lib.hid hf
        have HN := Lib.hid hn
        have HLT := Lib.hid hlt
        have HM := Lib.hid hS.rd.size
        have D1 := Lib.hid (at_any B t' 93 93 (by rfl) wr hS.rd)
        cases hq : headB t' 93 with
        | true =>
          rw [hq] at D1
          have C1 := Lib.hid (take_any B t' 93 93 (by rfl) wr hS.rd)
          rw [hq] at C1
          simp only [if_true] at C1
          have HR := Lib.hid (show O = some (ts', [], (restB t').data.toList) by
            rw [← hT, restB_list]
            rw [headB_cons] at hq
            cases hl : t'.data.toList with
            | nil => rw [hl] at hq; cases hq
            | cons x l => rw [hl] at hq; rw [tailL, if_pos (by simpa using hq)]; rfl)
          clear hS hT hf hn hlt hq
          go_wp2_with fail
          refine D1.out.mono ?_
          rintro e w5 ⟨rfl, rfl⟩
          go_wp2_with fail
          refine C1.out.mono ?_
          rintro e w6 ⟨rfl, rfl⟩
          go_wp2_with fail
          go_end0
          have hst := HS.out.set G.out (restB t')
          obtain ⟨hv, xs, h5, hr⟩ := hst.row
          refine ⟨hst.fr, ?_⟩
          rw [HOO.out, HR.out]
          refine ⟨rfl, ?_, hv, xs, h5, hr⟩
          have er := bytes_eq (restB t') _ rfl
          rw [← er]
          exact hst.rd
        | false =>
          rw [hq] at D1
          have C1 := Lib.hid (take_any B t' 44 44 (by rfl) wr hS.rd)
          cases h4 : headB t' 44 with
          | false =>
            rw [h4] at C1
            simp only [Bool.false_eq_true, if_false, stop] at C1
            have HR := Lib.hid (show O = none by
              rw [← hT]
              rw [headB_cons] at hq h4
              cases hl : t'.data.toList with
              | nil => rfl
              | cons x l => rw [hl] at hq h4; rw [tailL, if_neg (by simpa using hq), if_neg (by simpa using h4)])
            clear hS hT hf hn hlt hq h4
            go_wp2_with fail
            refine D1.out.mono ?_
            rintro e w5 ⟨rfl, rfl⟩
            go_wp2_with fail
            refine C1.out.mono ?_
            rintro e w6 ⟨rfl, rfl⟩
            go_wp2_with fail
            exact ⟨rfl, ⟨HS.out.fr, by rw [HOO.out, HR.out]; rfl⟩⟩
          | true =>
            rw [h4] at C1
            simp only [if_true] at C1
            have hst := hS.set G.out (restB t')
            have hrs : (restB t').size + 1 = t'.size := by
              rw [headB_cons] at h4
              have e1 := restB_list t'
              have e2 := Lib.size_eq t'
              have e3 := Lib.size_eq (restB t')
              cases hl : t'.data.toList with
              | nil => rw [hl] at h4; cases h4
              | cons x l => rw [e1, hl] at e3; rw [hl] at e2; simp at e2 e3; omega
            obtain ⟨f2, rfl⟩ : ∃ f2, f' = f2 + 1 := ⟨f' - 1, by omega⟩
            have hit : O = match rdL (restB t').data.toList with | none => none | some (x, u) => tailL rdL false 93 f2 (ts' ++ [x]) [] u := by
              rw [← hT, ← itemsL_row, restB_list]
              rw [headB_cons] at hq h4
              cases hl : t'.data.toList with
              | nil => rw [hl] at h4; cases h4
              | cons x l => rw [hl] at hq h4; rw [tailL, if_neg (by simpa using hq), if_pos (by simpa using h4)]; rfl
            have HIT := Lib.hid hit
            obtain ⟨u, hu⟩ : ∃ u, restB t' = u := ⟨_, rfl⟩
            obtain ⟨W2, hW2⟩ : ∃ W2, wr.setCell ⟨B, 0, none⟩ (.string (restB t')) = W2 := ⟨_, rfl⟩
            rw [hW2] at C1 hst
            rw [hu] at hst hrs HIT
            have E := Lib.hid (oneR base B V R a b c ne w ts' u W2 G.out hst (by omega) (HCV.out u (by omega)))
            have HRS := Lib.hid hrs
            clear hS hT hf hn hlt hq h4 hit hW2 hu hst hrs
            go_wp2_with fail
            refine D1.out.mono ?_
            rintro e w5 ⟨rfl, rfl⟩
            go_wp2_with fail
            refine C1.out.mono ?_
            rintro e w6 ⟨rfl, rfl⟩
            go_wp2_with fail
            refine E.out.mono ?_
            intro e w7 h7
            have hi7 := h7.is
            have H7 := Lib.hid h7.fr
            cases ho : rdL u.data.toList with
            | none =>
              rw [ho] at hi7
              obtain rfl : e = .panicked [{ v := .iface 24 (.int .i64 6), recovered := false }] := hi7
              have HR := Lib.hid (show O = none by rw [HIT.out, ho])
              clear ho h7
              go_wp2_with fail
              exact ⟨rfl, ⟨H7.out, by rw [HOO.out, HR.out]; rfl⟩⟩
            | some p =>
              rw [ho] at hi7
              obtain ⟨rfl, hst7⟩ := hi7
              have HS7 := Lib.hid hst7
              have hsh := rdL_shorter _ _ _ ho
              have hps : (⟨p.2.toArray⟩ : ByteArray).size = p.2.length := by rw [Lib.size_eq]
              have hus := Lib.size_eq u
              have HR := Lib.hid (show tailL rdL false 93 f2 (ts' ++ [p.1]) [] (⟨p.2.toArray⟩ : ByteArray).data.toList = O by rw [HIT.out, ho])
              have HQ := Lib.hid (show (⟨p.2.toArray⟩ : ByteArray).size ≤ f2 ∧ (ts' ++ [p.1]).length + (⟨p.2.toArray⟩ : ByteArray).size ≤ 4096 ∧ (⟨p.2.toArray⟩ : ByteArray).size < s.size ∧ (⟨p.2.toArray⟩ : ByteArray).size < t'.size by
                have h1 := HF.out
                have h2 := HN.out
                have h3 := HRS.out
                have h4 := HLT.out
                rw [List.length_append, List.length_singleton, hps]
                omega)
              clear ho h7 hst7 hsh hps hus
              go_wp2_with fail
              go_roundw
              case rel => exact ⟨_, _, _, HS7.out, HR.out, HQ.out.1, HQ.out.2.1, HQ.out.2.2.1⟩
              case measure => rw [HM.out, HS7.out.rd.size]; exact HQ.out.2.2.2
end Go.Proofs.YtepcaglekgeamaaGreatDoor
namespace Go.Proofs.YtepcaglekgeamaaGreatDoor
open Go.RowKit

structure NamesOf (base : Nat) (w : World) (hn : Value) (ns : List ByteArray) : Prop where
  own : w.ownsRow base 9 1 hn ns.length (ns.map Value.string)
  size : ∀ x ∈ ns, x.size ≤ 4096

theorem NamesOf.keep {base : Nat} {w w' : World} {hn : Value} {ns : List ByteArray} (h : NamesOf base w hn ns) (hg : ∀ k, hn.ownBlock = some k → base ≤ k → k < w.heap.size → w'.heap[k]? = w.heap[k]?) : NamesOf base w' hn ns := by
  refine ⟨?_, h.size⟩
  obtain ⟨h1, h2⟩ := h.own
  refine ⟨h1, ?_⟩
  rcases h2 with h2 | ⟨g, cap, cur, e, hb, hc, r⟩
  · exact Or.inl h2
  · exact Or.inr ⟨g, cap, cur, e, hb, (hg g (by rw [e]; rfl) hb (Array.getElem?_eq_some_iff.1 hc).1).trans hc, r⟩

structure StO (base B V R : Nat) (a b c : Value) (w0 : World) (ns : List ByteArray) (ts : List Val) (t : ByteArray) (w : World) : Prop where
  fr : Fr2 base B V w0 w
  rd : RdAt w B t
  env : TEnv w
  ptr : PtrAt w R B
  size : base ≤ w.heap.size
  row : ∃ hv hn xs, At5 w V a b c hv hn ∧ RowOf base w hv hn.ownBlock ts xs ∧ NamesOf base w hn ns

theorem StO.set {base B V R : Nat} {a b c : Value} {w0 : World} {ns : List ByteArray} {ts : List Val} {t : ByteArray} {w : World} (h : StO base B V R a b c w0 ns ts t w) (g : Geo base B V R) (r : ByteArray) :
    StO base B V R a b c w0 ns ts r (w.setCell ⟨B, 0, none⟩ (.string r)) := by
  have f := Fr2.set (base := base) (B := B) (V := V) w 0 (.string r)
  obtain ⟨hv, hn, xs, h5, hr, hm⟩ := h.row
  have hne : ∀ k, base ≤ k → k ≠ B := fun k hk e => by have := g.hBb; omega
  exact ⟨h.fr.trans f, h.rd.set r, h.env.fr2 g f, h.ptr.fr2 g f, by rw [setCell_size]; exact h.size, hv, hn, xs, (Below.heap_setCell _ _ _ _ g.hVB).trans h5,
    hr.keep (fun k hk _ _ => Below.heap_setCell _ _ _ _ (hne k hk)) (Or.inl rfl), hm.keep fun k _ hk _ => Below.heap_setCell _ _ _ _ (hne k hk)⟩

theorem At5.set4 {w : World} {V : Nat} {a b c d e : Value} (h : At5 w V a b c d e) (e' : Value) : At5 (w.setCell ⟨V, 4, none⟩ e') V a b c d e' := by
  unfold At5 at h ⊢
  show (w.heap.modify V _)[V]? = _
  rw [Array.getElem?_modify, if_pos rfl, h]
  rfl

theorem names_done {base B V R n : Nat} {a b c : Value} {w0 w W w2 w3 : World} {ns : List ByteArray} {ts : List Val} {t r k : ByteArray} {hv hn : Value} {xs : List Value} {g cap : Nat} {o : Obj} (G : Geo base B V R) (H : StO base B V R a b c w0 ns ts t w)
    (h5 : At5 w V a b c hv hn) (hr : RowOf base w hv hn.ownBlock ts xs) (hm : NamesOf base w hn ns) (hnn : ns.length = n) (hB : Below w.heap.size w W) (hg2 : Gone B W w2) (hr2 : RdAt w2 B r) (hk : k.size ≤ 4096)
    (hown : w3.ownsRow base 9 1 (.slice (some ⟨g, 0, none⟩) (n + 1) cap) (n + 1) (ns.map Value.string ++ [.string k])) (hg3 : (w2.alloc o).grownBy w3 hn.ownBlock) (hat : hn.ownBlock = some g ∨ g = w2.heap.size + 1) :
    StO base B V R a b c w0 (ns ++ [k]) ts r (w3.setCell ⟨V, 4, none⟩ (.slice (some ⟨g, 0, none⟩) (n + 1) cap)) := by
  have hob : ∀ k, hn.ownBlock = some k → base ≤ k ∧ k < w.heap.size := hm.own.lt
  have hs2 : w.heap.size ≤ w2.heap.size := Nat.le_trans hB.size hg2.size
  have hgb : base ≤ g := by
    rcases hat with h | h
    · exact (hob g h).1
    · have := H.size; omega
  have h3 : ∀ k, k < w.heap.size → k ≠ B → some k ≠ hn.ownBlock → w3.heap[k]? = w.heap[k]? := fun k hk h1 h2 =>
    (hg3.block k (by simp; omega) h2).trans ((Below.heap_alloc _ _ _ (by omega)).trans ((hg2.block k (Nat.lt_of_lt_of_le hk hB.size) (fun e => h1 (Option.some.inj e))).trans (hB.block k hk)))
  have hsz3 : w.heap.size ≤ w3.heap.size := Nat.le_trans hs2 (Nat.le_trans (by simp) hg3.size)
  have hVo : some V ≠ hn.ownBlock := fun e => by have := (hob V e.symm).1; have := G.hVb; omega
  have hBo : some B ≠ hn.ownBlock := fun e => by have := (hob B e.symm).1; have := G.hBb; omega
  have hgV : ¬ g = V := fun e => by have := G.hVb; omega
  have f : Fr2 base B V w (w3.setCell ⟨V, 4, none⟩ (.slice (some ⟨g, 0, none⟩) (n + 1) cap)) := by
    refine ⟨hg3.os.trans (hg2.os.trans hB.os), hg3.tape.trans (hg2.tape.trans hB.tape), hg3.output.trans (hg2.output.trans hB.output), by rw [setCell_size]; exact hsz3, fun k hk h1 h2 => ?_⟩
    rw [Below.heap_setCell _ _ _ _ h2]
    exact h3 k (by have := H.size; omega) h1 (fun e => by have := (hob k e.symm).1; omega)
  have hx5 : At5 w3 V a b c hv hn := (h3 V h5.lt G.hVB hVo).trans h5
  refine ⟨H.fr.trans f, ?_, H.env.fr2 G f, H.ptr.fr2 G f, by rw [setCell_size]; exact Nat.le_trans H.size hsz3, hv, _, xs, hx5.set4 _, ?_, ?_⟩
  · refine hr2.kept ?_
    rw [Below.heap_setCell _ _ _ _ (Ne.symm G.hVB)]
    exact (hg3.block B (by have := hr2.lt; simp; omega) hBo).trans (Below.heap_alloc _ _ _ hr2.lt)
  · refine hr.keep (fun k hk hlt hne => ?_) ?_
    · rw [Below.heap_setCell _ _ _ _ (fun e => by have := G.hVb; have e2 : k = V := e; omega)]
      exact h3 k hlt (fun e => by have := G.hBb; omega) (fun e => hne e.symm)
    · rcases hat with h | h
      · exact Or.inl h.symm
      · exact Or.inr fun k e => by have e2 : g = k := Option.some.inj e; omega
  · refine ⟨?_, fun x hx => ?_⟩
    · rw [List.length_append, List.map_append]
      subst hnn
      exact own_far hown V 4 hgV _
    · rcases List.mem_append.1 hx with hx | hx
      · exact hm.size x hx
      · rw [List.mem_singleton.1 hx]; exact hk

theorem strInfo : (Tryz.prog.info? 9).map (fun i => (i.zero, i.size, i.bytes)) = some (some (.string ⟨#[]⟩), 1, 16) := by kernel_rfl

def MidO (base B V R : Nat) (a b c : Value) (w0 : World) (ns : List ByteArray) (ts : List Val) (t : ByteArray) : Exit → Act → World → Prop
  | .normal, x, w => (∃ u2 u3 u4 u5 u6 u7 u8, x = { tmps := #[.pointer (some ⟨V, 0, none⟩), .pointer (some ⟨R, 0, none⟩), u2, u3, u4, u5, u6, u7, u8, undef, undef, undef, undef, undef, undef, undef, undef, undef, undef, undef], defers := [] }) ∧
      ∃ p, quoteL t.data.toList = some p ∧ StO base B V R a b c w0 (ns ++ [⟨p.1.toArray⟩]) ts ⟨p.2.toArray⟩ w
  | .panic ch, x, w => ch = [{ v := .iface 24 (.int .i64 6), recovered := false }] ∧ x.defers = [] ∧ quoteL t.data.toList = none ∧ Fr2 base B V w0 w
  | _, _, _ => False

theorem quoteL_short (s : List UInt8) (p : List UInt8 × List UInt8) (h : quoteL s = some p) : p.1.length + p.2.length + 2 ≤ s.length := by
  cases s with
  | nil => rw [quoteL] at h; cases h
  | cons x l =>
    rw [quoteL] at h
    split at h
    · have := wordEnd_sound l p.1 p.2 h
      rw [this]; simp; omega
    · cases h
end Go.Proofs.YtepcaglekgeamaaGreatDoor
namespace Go.Proofs.YtepcaglekgeamaaGreatDoor
open Go.RowKit

structure OneO (base B V R : Nat) (a b c : Value) (w0 : World) (ns : List ByteArray) (ts : List Val) (t : ByteArray) (e : Ending) (w' : World) : Prop where
  fr : Fr2 base B V w0 w'
  is : match nameL true ns t.data.toList with
    | none => e = stop 6
    | some q => match rdL q.2 with
      | none => e = stop 6
      | some p => e = .returned (.tuple #[]) ∧ StO base B V R a b c w0 q.1 (ts ++ [p.1]) ⟨p.2.toArray⟩ w'

def EndO (base B V : Nat) (t : ByteArray) (ts : List Val) (a b c hv ne : Value) (nb : Option Nat) (w : World) : Exit → Act → World → Prop
  | .normal, x, w' => x.defers = [] ∧ OneEnds base B V t ts a b c hv ne nb w (.returned (.tuple #[])) w'
  | .panic ch, x, w' => ch = [{ v := .iface 24 (.int .i64 6), recovered := false }] ∧ x.defers = [] ∧ rdL t.data.toList = none ∧ Fr2 base B V w w'
  | _, _, _ => False

theorem At5.same {w : World} {B : Nat} {a b c d e a' b' c' d' e' : Value} (h : At5 w B a b c d e) (k : At5 w B a' b' c' d' e') : d = d' ∧ e = e' := by
  unfold At5 at h k
  rw [h] at k
  simp only [Option.some.injEq, Obj.cells.injEq, Array.mk.injEq, List.cons.injEq] at k
  exact ⟨k.1.2.2.2.1, k.1.2.2.2.2.1⟩

theorem own_drew {w w2 : World} {base B n : Nat} {e : TypeId} {m : Nat} {v : Value} {xs : List Value} (h : w.ownsRow base e m v n xs) (hg : Gone B w.drew w2) (hB : B < base) : w2.ownsRow base e m v n xs :=
  (h.drew).kept hg (Or.inr fun e => by have := (h.lt B (by rw [e])).1; omega)

theorem own_not {w : World} {base V n : Nat} {e : TypeId} {m : Nat} {v : Value} {xs : List Value} (h : w.ownsRow base e m v n xs) (hV : V < base) (he : some V = v.ownBlock) : False := by
  have := (h.lt V he.symm).1; omega

set_option maxRecDepth 100000 in
set_option maxHeartbeats 4000000 in
theorem obj1_t (base B V R : Nat) (a b c : Value) (w0 : World) (ns : List ByteArray) (ts : List Val) (t : ByteArray) (w : World) (G : Geo base B V R) (H : StO base B V R a b c w0 ns ts t w) (hz : t.size ≤ 4096) (hnl : ns.length ≤ 5000) (hlen : ts.length ≤ 5000)
    (CV : ∀ u : ByteArray, u.size < t.size → ∀ w, RdAt w B u → TEnv w → Calls Tryz.prog 122 #[.pointer (some ⟨B, 0, none⟩)] w (ValEnds B u w)) :
    Calls Tryz.prog 159 #[.pointer (some ⟨V, 0, none⟩), .pointer (some ⟨R, 0, none⟩)] w fun e w' => OneO base B V R a b c w0 ns ts t e w' := by
  obtain ⟨hv, hn, xs, h5, hr, hm⟩ := H.row
  obtain ⟨v0, v1, v2, v3, v4⟩ := h5.cells
  have p0 := H.ptr.cell
  have HG := Lib.hid G
  have HH := Lib.hid H
  have HCV := Lib.hid CV
  have HZ := Lib.hid hz
  have HNL := Lib.hid hnl
  have HLEN := Lib.hid hlen
  have H5 := Lib.hid h5
  have HR := Lib.hid hr
  have HM := Lib.hid hm
  clear CV hz hnl hlen h5 hr hm v0 v1 v2 v3 G H
  go_enter Tryz.func159, Tryz.ntmps159
  go_wp2_with fail
  refine Code.wp_mono (Q := MidO base B V R a b c w0 ns ts t) ?_ ?_
  · intro e x w1 hmid
    clear v4 p0 H5 HR HM
    cases e with
    | normal =>
      obtain ⟨⟨u2, u3, u4, u5, u6, u7, u8, rfl⟩, q, hq, hst⟩ := hmid
      have HQ := Lib.hid hq
      have HS := Lib.hid hst
      have p1 := hst.ptr.cell
      obtain ⟨k, hk⟩ : ∃ k : ByteArray, (⟨q.1.toArray⟩ : ByteArray) = k := ⟨_, rfl⟩
      obtain ⟨r, hr⟩ : ∃ r : ByteArray, (⟨q.2.toArray⟩ : ByteArray) = r := ⟨_, rfl⟩
      have hrl : r.data.toList = q.2 := by rw [← hr]
      rw [hk, hr] at HS hst
      have C2 := Lib.hid (take_any B r 58 58 (by rfl) w1 hst.rd)
      have hsh := quoteL_short _ _ hq
      have hts := Lib.size_eq t
      have hrs := Lib.size_eq r
      rw [hrl] at hrs
      have HRT := Lib.hid (show r.size < t.size by omega)
      cases h8 : headB r 58 with
      | false =>
        rw [h8] at C2
        simp only [Bool.false_eq_true, if_false, stop] at C2
        have HO := Lib.hid (show nameL true ns t.data.toList = none by
          unfold nameL
          rw [if_pos rfl, hq]
          rw [headB_cons, hrl] at h8
          obtain ⟨q1, q2⟩ := q
          cases q2 with
          | nil => rfl
          | cons x l => simp only at h8 ⊢; rw [if_neg (by simpa using h8)])
        clear hq hst hk hr hrl hsh hts hrs h8
        go_wp2_with fail
        refine C2.out.mono ?_
        rintro e w2 ⟨rfl, rfl⟩
        go_wp2_with fail
        exact ⟨rfl, ⟨HS.out.fr, by rw [HO.out]; rfl⟩⟩
      | true =>
        rw [h8] at C2
        simp only [if_true] at C2
        have hst2 := hst.set HG.out (restB r)
        have hnm : nameL true ns t.data.toList = some (ns ++ [k], (restB r).data.toList) := by
          unfold nameL
          rw [if_pos rfl, hq, restB_list, hrl]
          rw [headB_cons, hrl] at h8
          obtain ⟨q1, q2⟩ := q
          cases q2 with
          | nil => cases h8
          | cons x l => simp only at h8 ⊢; rw [if_pos (by simpa using h8), hk]; rfl
        have hrr : (restB r).size ≤ r.size := by
          have e1 := restB_list r
          have e2 := Lib.size_eq (restB r)
          have e3 := Lib.size_eq r
          rw [e1, List.length_tail] at e2
          omega
        obtain ⟨u, hu⟩ : ∃ u, restB r = u := ⟨_, rfl⟩
        obtain ⟨W2, hW2⟩ : ∃ W2, w1.setCell ⟨B, 0, none⟩ (.string (restB r)) = W2 := ⟨_, rfl⟩
        rw [hW2] at C2 hst2
        rw [hu] at hst2 hnm hrr
        have HNM := Lib.hid hnm
        have HS2 := Lib.hid hst2
        have HRR := Lib.hid hrr
        have HROWS := Lib.hid hst2.row
        obtain ⟨hv, hn, xs, h5, hrow, hnames⟩ := hst2.row
        have H5B := Lib.hid h5
        obtain ⟨-, -, -, v3, -⟩ := h5.cells
        have p2 := hst2.ptr.cell
        clear hq hst hk hr hrl hsh hts hrs h8 hst2 hnm hrr hu hW2
        go_wp2_with fail
        refine C2.out.mono ?_
        rintro e w2 ⟨rfl, rfl⟩
        go_wp2_with fail
        refine Code.wp_mono (Q := EndO base B V u ts a b c hv hn hn.ownBlock w2) ?_ ?_
        · intro e x w3 hend
          clear h5 hrow hnames v3 p2
          cases e with
          | normal =>
            obtain ⟨hd, ho⟩ := hend
            have HE := Lib.hid ho
            clear ho
            go_wp2_with fail
            refine bodyPost_end (results_none rfl _ _ _) hd ?_
            refine ⟨HS2.out.fr.trans HE.out.fr, ?_⟩
            rw [HNM.out]
            simp only
            have hi := HE.out.is
            cases ho : rdL u.data.toList with
            | none => rw [ho] at hi; cases hi
            | some p =>
              rw [ho] at hi
              obtain ⟨-, hv', xs', i5, ird, irow, ikeep⟩ := hi
              obtain ⟨hvA, hnA, xsA, h5A, hrowA, hnamesA⟩ := HROWS.out
              obtain ⟨rfl, rfl⟩ := h5A.same H5B.out
              exact ⟨by first | rfl | trivial, HS2.out.fr.trans HE.out.fr, ird, HS2.out.env.fr2 HG.out HE.out.fr, HS2.out.ptr.fr2 HG.out HE.out.fr, Nat.le_trans HS2.out.size HE.out.fr.size, hv', hnA, xs', i5, irow,
                hnamesA.keep fun k hk hb hlt => ikeep k hb hlt fun e => hrowA.apart k e.symm hk⟩
          | panic ch =>
            obtain ⟨rfl, hd, ho, hf⟩ := hend
            have HO := Lib.hid ho
            clear ho
            go_wp2_with fail
            exact ⟨hd, ⟨HS2.out.fr.trans hf, by rw [HNM.out]; simp only; rw [HO.out]; rfl⟩⟩
          | exit i => exact hend.elim
          | goto l => exact hend.elim
          | ret => exact hend.elim
          | outgrown => exact hend.elim
        · obtain ⟨ha, hc, rfl⟩ : ∃ ha hc, hv = .slice ha ts.length hc := by
            rcases hrow.own.2 with ⟨e, h0⟩ | ⟨g, cap, cur, e, -⟩
            · exact ⟨none, 0, by rw [e, h0]⟩
            · exact ⟨_, _, e⟩
          obtain ⟨n, hnn⟩ : ∃ n, ts.length = n := ⟨_, rfl⟩
          have hlen := HLEN.out
          have hV5 := h5
          rw [hnn] at v3 hV5 hrow hlen ⊢
          have B0 := Lib.hid (Below.refl w2.heap.size w2)
          have hbase := HS2.out.size
          obtain ⟨hB, hV, hBb, hVb, hRb, hVB, hRB, hRV⟩ := HG.out
          have CVU := Lib.hid (HCV.out u (by have := HRR.out; have := HRT.out; omega))
          cases ho : rdL u.data.toList with
          | none =>
            have CN := Lib.hid (show ∀ w', Below w2.heap.size w2 w' → Calls Tryz.prog 122 #[.pointer (some ⟨B, 0, none⟩)] w' fun e w3 => e = .panicked [{ v := .iface 24 (.int .i64 6), recovered := false }] ∧ Fr2 base B V w2 w3 from fun w' hb =>
              (CVU.out w' (HS2.out.rd.kept (hb.block B HS2.out.rd.lt)) (HS2.out.env.below hb)).mono fun e w3 h => by
                have h1 := h.is
                rw [ho] at h1
                exact ⟨h1, (Fr2.gone (Gone.below hb) hbase).trans (Fr2.gone h.gone (Nat.le_trans hbase hb.size))⟩)
            have HO := Lib.hid ho
            clear ho hrow hnames h5 hV5 hnn hlen hbase hB hV hBb hVb hRb hVB hRB hRV
            refine wp_region_held_drew (S := fun u => u.cell? ⟨V, 3, none⟩ = some (.slice ha n hc) ∧ u.cell? ⟨R, 0, none⟩ = some (.pointer (some ⟨B, 0, none⟩))) (by kernel_rfl) ⟨v3, p2⟩ fun hS => ?_
            refine wpAnyH_take (i := 0) (v := .pointer (some ⟨V, 3, none⟩)) rfl (by kernel_rfl) (by kernel_rfl) (by kernel_rfl) (fun _ _ _ h => h) (Or.inl ⟨by rfl, ?_⟩) hS ?_
            · intro u _; go_simp
            refine wpAnyH_take (i := 1) (v := .slice ha n hc) rfl (by kernel_rfl) (by kernel_rfl) (by kernel_rfl) (fun _ _ _ h => h) (Or.inl ⟨by rfl, ?_⟩) hS ?_
            · rintro u ⟨hu, -⟩; go_simp
            refine wpAnyH_take (i := 2) (v := .pointer (some ⟨B, 0, none⟩)) rfl (by kernel_rfl) (by kernel_rfl) (by kernel_rfl) (fun _ _ _ h => h) (Or.inl ⟨by rfl, ?_⟩) hS ?_
            · rintro u ⟨-, hu⟩; go_simp
            refine wpAnyH_take (i := 4) (v := .int .i64 n) rfl (by kernel_rfl) (by kernel_rfl) (by kernel_rfl) (fun _ _ _ h => h) (Or.inl ⟨by rfl, ?_⟩) hS ?_
            · intro u _; go_simp
            go_simp
            refine wpAnyH_ready (rs := [3, 5]) (by kernel_rfl) (by simp) ?_
            refine AllReadyH.cons (o := { dst := some 14, op := .call { callee := .value (.func 122), args := #[.tmp 13], argTypes := #[188] }, type := 71, pos := _, after := _, guard := none }) rfl (fun K hK => ?_) (AllReadyH.cons (o := { dst := some 16, op := .buildSlice 69 1 _, type := 69, pos := _, after := _, guard := none }) rfl (fun K hK => ?_) AllReadyH.nil)
            · go_simp
              go_at_call 122
              refine (CN.out _ B0.out.drew).mono ?_
              rintro e w3 ⟨rfl, hf⟩
              refine ⟨?_, rfl, HO.out, hf⟩
              first | rfl | trivial
            · go_simp
              have B1 := Lib.hid (((below_new w2 (.cells #[.int .i64 0, .int .i64 0, .string ⟨#[]⟩, .slice none 0 0, .slice none 0 0] 71))).drew)
              refine hK.out _ _ ⟨(B1.out.cell (World.block_lt_of_cell? _ _ v3)).trans v3, (B1.out.cell (World.block_lt_of_cell? _ _ p2)).trans p2⟩ (fun hS2 => ?_)
              clear hK K
              go_simp
              refine wpAnyH_ready (rs := [3]) (by kernel_rfl) (by simp) ?_
              refine AllReadyH.cons (o := { dst := some 14, op := .call { callee := .value (.func 122), args := #[.tmp 13], argTypes := #[188] }, type := 71, pos := _, after := _, guard := none }) rfl (fun K hK => ?_) AllReadyH.nil
              go_simp
              go_at_call 122
              refine (CN.out _ B1.out).mono ?_
              rintro e w3 ⟨rfl, hf⟩
              refine ⟨?_, rfl, HO.out, hf⟩
              first | rfl | trivial
          | some p =>
            obtain ⟨T, r'⟩ := p
            have CS := Lib.hid (show ∀ w', Below w2.heap.size w2 w' → Calls Tryz.prog 122 #[.pointer (some ⟨B, 0, none⟩)] w' fun e w3 =>
                ∃ (xk xn : Int) (xs' : ByteArray) (xia xna : Option Addr) (xli xic xnn xnc : Nat), e = .returned (.agg #[.int .i64 xk, .int .i64 xn, .string xs', .slice xia xli xic, .slice xna xnn xnc]) ∧
                  Below w2.heap.size w2 w' ∧ Aft base B V n a b c (.slice ha n hc) hn hn.ownBlock ts xs ⟨r'.toArray⟩ (.agg #[.int .i64 xk, .int .i64 xn, .string xs', .slice xia xli xic, .slice xna xnn xnc]) T w' w3 from fun w' hb =>
              (CVU.out w' (HS2.out.rd.kept (hb.block B HS2.out.rd.lt)) (HS2.out.env.below hb)).mono fun e w3 h => by
                have h1 := h.is
                rw [ho] at h1
                obtain ⟨v, rfl, hv, hr⟩ := h1
                obtain ⟨xk, xn, xs', xia, xna, xli, xic, xnn, xnc, rfl⟩ := hv.isVal.shape
                have hVlt := hV5.lt
                have hrk : RowOf base w3 (.slice ha n hc) hn.ownBlock ts xs := hrow.keep (fun k hk hlt _ => (h.gone.block k (Nat.lt_of_lt_of_le hlt hb.size) (fun e => by have := Option.some.inj e; omega)).trans (hb.block k hlt)) (Or.inl rfl)
                refine ⟨xk, xn, xs', xia, xna, xli, xic, xnn, xnc, rfl, hb, h.gone, hr, ?_, hrk, by have := hrk.own; rwa [hnn] at this, Nat.le_trans hbase (Nat.le_trans hb.size h.gone.size), hv⟩
                exact (h.gone.block V (Nat.lt_of_lt_of_le hVlt hb.size) (fun e => hVB (Option.some.inj e))).trans ((hb.block V hVlt).trans hV5))
            have HO := Lib.hid ho
            have HROW := Lib.hid hrow
            have HXL := Lib.hid (show xs.length = n * 5 by have := hrow.own.1; rwa [hnn] at this)
            have HLT := hV5.lt
            have HBL := Lib.hid HS2.out.rd.lt
            have HNN := Lib.hid hnn
            have HNB := Lib.hid (show ∀ k, hn.ownBlock = some k → k < w2.heap.size from fun k e => (hnames.own.lt k e).2)
            obtain ⟨i0, hi, hz0, hz1, hz2⟩ := info_parts valInfo
            have hn1 : (n : Int) < (n : Int) + 1 := by omega
            have p0a : ∀ o, (w2.alloc o).cell? ⟨R, 0, none⟩ = some (.pointer (some ⟨B, 0, none⟩)) := fun o => ((below_new w2 o).cell (World.block_lt_of_cell? _ _ p2)).trans p2
            have v3a : ∀ o, (w2.alloc o).cell? ⟨V, 3, none⟩ = some (.slice ha n hc) := fun o => ((below_new w2 o).cell (World.block_lt_of_cell? _ _ v3)).trans v3
            clear ho hrow hnames h5 hV5 hnn hB hV hRb hRB hRV p1
            go_region_law (first
              | (go_simp; go_at_call 122; refine (CS.out _ ?_).mono ?_; (first | exact B0.out.drew | exact (B0.out.alloc (Nat.le_refl _) _).drew | exact (B0.out.drew).alloc (Nat.le_refl _) _); rintro e w3 ⟨xk, xn, xs', xia, xna, xli, xic, xnn, xnc, rfl, hBW, hA⟩; have c3v := hA.five.cells.2.2.2.1; have c3a : ∀ o, (w3.alloc o).cell? ⟨V, 3, none⟩ = some (.slice ha n hc) := (fun o => ((below_new w3 o).cell (World.block_lt_of_cell? _ _ c3v)).trans c3v))
              | (refine step_append_lies _ (by rfl) (.tmp 12) (.tmp 16) 69 (by rfl) base 71 i0 _ 5 80 Tryz.underlying69 hi hz0 hz1 hz2 rfl (by decide) _ n xs (by rfl) hA.own ⟨w2.heap.size, 0, none⟩ 1 1 zero5 (by rfl) (by rfl) (World.news_of_block ((hA.gone.block w2.heap.size (by simp) (fun e => by have := Option.some.inj e; have := HBL.out; omega)).trans (heap_alloc_new w2 _))) (by unfold zero5; simp [Value.oneCell']) (by decide) (by unfold maxLen; omega) (by omega) (hA.base) w3.heap.size (by rfl) ?_; intro g3 c3 w4 hown3 hgrow3 hat3 hlt3; have hP := App.of hA hVb (Below.refl _ _) hown3 hgrow3 hat3; have hgV := hP.ne hVb; obtain ⟨z0, z1, z2, z3, z4⟩ := hP.zeros HXL.out; obtain ⟨-, -, -, u3', -⟩ := hP.five.cells; have uf := hP.five.frozen 3; have f0 := hP.own.frozenAt (n * 5); have f1 := hP.own.frozenAt (n * 5 + 1); have f2 := hP.own.frozenAt (n * 5 + 2); have f3 := hP.own.frozenAt (n * 5 + 3); have f4 := hP.own.frozenAt (n * 5 + 4); clear hown3 hgrow3 hat3 hlt3)
              | (refine step_append_lies _ (by rfl) (.tmp 12) (.tmp 16) 69 (by rfl) base 71 i0 _ 5 80 Tryz.underlying69 hi hz0 hz1 hz2 rfl (by decide) _ n xs (by rfl) (hA.own.alloc _) ⟨w3.heap.size, 0, none⟩ 1 1 zero5 (by rfl) (by rfl) (World.news_of_block (heap_alloc_new w3 _)) (by unfold zero5; simp [Value.oneCell']) (by decide) (by unfold maxLen; omega) (by omega) (Nat.le_trans hA.base (below_new w3 _).size) (w3.heap.size + 1) (by simp) ?_; intro g3 c3 w4 hown3 hgrow3 hat3 hlt3; have hP := App.of hA hVb (below_new w3 _) hown3 hgrow3 (App.at' hat3); have hgV := hP.ne hVb; obtain ⟨z0, z1, z2, z3, z4⟩ := hP.zeros HXL.out; obtain ⟨-, -, -, u3', -⟩ := hP.five.cells; have uf := hP.five.frozen 3; have f0 := hP.own.frozenAt (n * 5); have f1 := hP.own.frozenAt (n * 5 + 1); have f2 := hP.own.frozenAt (n * 5 + 2); have f3 := hP.own.frozenAt (n * 5 + 3); have f4 := hP.own.frozenAt (n * 5 + 4); clear hown3 hgrow3 hat3 hlt3))
            all_goals
              refine ⟨rfl, ?_⟩
              refine row_done hBW hbase hBb hVb hVB HROW.out HNB.out HNN.out HO.out hA hP ?_
              unfold set5
              first
                | (left; with_reducible rfl)
                | (right; with_reducible rfl)
    | panic ch =>
      obtain ⟨rfl, hd, hq, hf⟩ := hmid
      have HO := Lib.hid (show nameL true ns t.data.toList = none by unfold nameL; rw [if_pos rfl, hq])
      clear hq
      go_wp2_with fail
      exact ⟨hd, ⟨hf, by rw [HO.out]; rfl⟩⟩
    | exit i => exact hmid.elim
    | goto l => exact hmid.elim
    | ret => exact hmid.elim
    | outgrown => exact hmid.elim
  · have HRD := Lib.hid HH.out.rd
    have hzz := HZ.out
    cases hq : quoteL t.data.toList with
    | none =>
      have CN := Lib.hid (show Calls Tryz.prog 142 #[.pointer (some ⟨B, 0, none⟩)] w.drew fun e w2 => e = .panicked [{ v := .iface 24 (.int .i64 6), recovered := false }] ∧ Fr2 base B V w0 w2 from
        (word_t B t w.drew (by omega) HH.out.rd (HH.out.env.below (Below.refl _ _).drew) HG.out.hB).mono fun e w2 h => by
          have h1 := h.is
          rw [hq] at h1
          exact ⟨h1, HH.out.fr.trans ((Fr2.gone (w := w) (Gone.below (Below.refl _ _).drew) HH.out.size).trans (Fr2.gone h.gone HH.out.size))⟩)
      have HO := Lib.hid hq
      clear hq hzz
      refine wp_region_held_drew (S := fun u => u.cell? ⟨V, 4, none⟩ = some hn ∧ u.cell? ⟨R, 0, none⟩ = some (.pointer (some ⟨B, 0, none⟩))) (by kernel_rfl) ⟨v4, p0⟩ fun hS => ?_
      refine wpAnyH_take (i := 0) (v := .pointer (some ⟨V, 4, none⟩)) rfl (by kernel_rfl) (by kernel_rfl) (by kernel_rfl) (fun _ _ _ h => h) (Or.inl ⟨by rfl, ?_⟩) hS ?_
      · intro u _; go_simp
      refine wpAnyH_take (i := 1) (v := hn) rfl (by kernel_rfl) (by kernel_rfl) (by kernel_rfl) (fun _ _ _ h => h) (Or.inl ⟨by rfl, ?_⟩) hS ?_
      · rintro u ⟨hu, -⟩; go_simp
      refine wpAnyH_take (i := 2) (v := .pointer (some ⟨B, 0, none⟩)) rfl (by kernel_rfl) (by kernel_rfl) (by kernel_rfl) (fun _ _ _ h => h) (Or.inl ⟨by rfl, ?_⟩) hS ?_
      · rintro u ⟨-, hu⟩; go_simp
      go_simp
      refine wpAnyH_ready (rs := [3]) (by kernel_rfl) (by simp) ?_
      refine AllReadyH.cons (o := { dst := some 5, op := .call { callee := .value (.func 142), args := #[.tmp 4], argTypes := #[188] }, type := 9, pos := _, after := _, guard := none }) rfl (fun K hK => ?_) AllReadyH.nil
      go_simp
      go_at_call 142
      refine CN.out.mono ?_
      rintro e w2 ⟨rfl, hf⟩
      refine ⟨?_, rfl, HO.out, hf⟩
      first | rfl | trivial
    | some q =>
      obtain ⟨ha, hc, hne⟩ : ∃ ha hc, hn = .slice ha ns.length hc := by
        rcases HM.out.own.2 with ⟨e, h0⟩ | ⟨g, cap, cur, e, -⟩
        · exact ⟨none, 0, by rw [e, h0]⟩
        · exact ⟨_, _, e⟩
      obtain ⟨n, hnn⟩ : ∃ n, ns.length = n := ⟨_, rfl⟩
      have hnl := HNL.out
      rw [hnn] at hne hnl
      subst hne
      obtain ⟨k, hk⟩ : ∃ k : ByteArray, (⟨q.1.toArray⟩ : ByteArray) = k := ⟨_, rfl⟩
      obtain ⟨r, hr⟩ : ∃ r : ByteArray, (⟨q.2.toArray⟩ : ByteArray) = r := ⟨_, rfl⟩
      have hks : k.size ≤ 4096 := by
        have h1 := quoteL_short _ _ hq
        have h2 := Lib.size_eq t
        have h3 := Lib.size_eq k
        rw [← hk] at h3
        simp only at h3
        rw [← hk, h3]
        omega
      have CS := Lib.hid (show Calls Tryz.prog 142 #[.pointer (some ⟨B, 0, none⟩)] w.drew fun e w2 => e = .returned (.string k) ∧ Gone B w.drew w2 ∧ RdAt w2 B r from
        (word_t B t w.drew (by omega) HH.out.rd (HH.out.env.below (Below.refl _ _).drew) HG.out.hB).mono fun e w2 h => by
          have h1 := h.is
          rw [hq] at h1
          rw [← hk, ← hr]
          exact ⟨h1.1, h.gone, h1.2⟩)
      have HQ := Lib.hid hq
      have HK := Lib.hid hk
      have HRR := Lib.hid hr
      have HNN := Lib.hid hnn
      have HKS := Lib.hid hks
      have HOWN := Lib.hid (show w.ownsRow base 9 1 (.slice ha n hc) n (ns.map Value.string) by have := HM.out.own; rwa [hnn] at this)
      have hVlt := H5.out.lt
      have hVB := HG.out.hVB
      have hBW := Lib.hid ((Below.refl w.heap.size w).drew)
      have hSZ := HH.out.size
      have hBb := HG.out.hBb
      have hVb := HG.out.hVb
      obtain ⟨i0, hi, hz0, hz1, hz2⟩ := info_parts strInfo
      clear hq hk hr hnn hks hzz
      go_region_law (first
        | (go_simp; go_at_call 142; refine CS.out.mono ?_; rintro e w2 ⟨rfl, hg2, hr2⟩; have c4v : w2.cell? ⟨V, 4, none⟩ = some (.slice ha n hc) := (World.cell?_of_block (a := ⟨V, 4, none⟩) (hg2.block V hVlt (fun e => hVB (Option.some.inj e)))).trans v4; have c4a : ∀ o, (w2.alloc o).cell? ⟨V, 4, none⟩ = some (.slice ha n hc) := (fun o => ((below_new w2 o).cell (World.block_lt_of_cell? _ _ c4v)).trans c4v))
        | (refine step_append_lies _ (by rfl) (.tmp 3) (.tmp 6) 27 (by rfl) base 9 i0 _ 1 16 Tryz.underlying27 hi hz0 hz1 hz2 rfl (by decide) _ n (ns.map Value.string) (by rfl) ((own_drew HOWN.out hg2 hBb).alloc _) ⟨w2.heap.size, 0, none⟩ 1 1 [.string k] (by rfl) (by rfl) (World.news_of_block (heap_alloc_new w2 _)) (by simp [Value.oneCell']) (by decide) (by unfold maxLen; omega) (by omega) (Nat.le_trans hSZ (Nat.le_trans hg2.size (below_new w2 _).size)) (w2.heap.size + 1) (by simp) ?_; intro g3 c3 w3 hown3 hgrow3 hat3 hlt3; have u4 : w3.cell? ⟨V, 4, none⟩ = some (.slice ha n hc) := hgrow3.cell (c4a _) (fun e => own_not HOWN.out hVb e); have uf : w3.frozen? ⟨V, 4, none⟩ = false := (World.frozen?_of_block (a := ⟨V, 4, none⟩) ((hgrow3.block V (Nat.lt_of_lt_of_le hVlt (Nat.le_trans hg2.size (below_new w2 _).size)) (fun e => own_not HOWN.out hVb e)).trans ((Below.heap_alloc _ _ _ (Nat.lt_of_lt_of_le hVlt hg2.size)).trans (hg2.block V hVlt (fun e => hVB (Option.some.inj e)))))).trans (H5.out.frozen 4)))
      all_goals
        refine ⟨⟨_, _, _, _, _, _, _, rfl⟩, q, HQ.out, ?_⟩
        rw [HK.out, HRR.out]
        exact names_done HG.out HH.out H5.out HR.out HM.out HNN.out hBW.out hg2 hr2 HKS.out hown3 hgrow3 hat3
end Go.Proofs.YtepcaglekgeamaaGreatDoor
