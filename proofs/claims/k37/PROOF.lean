import PyProof.Rows.All
import Wide.All
import OpenK.AllK
import Wide.FinOn
import HandS.ForExc
import HandS.Comp
import HandS.Iter
import HandS.Zip
import HandS.IsInst
import HandS.ExcInit
import HandS.Style
import HandS.ExcField
import PySem.Challenge.RW_fieldberth_k37_octets_moved
set_option Elab.async false
set_option linter.all false
set_option maxRecDepth 100000
namespace FB
open PySem L2 RZ
def top (i : Nat) : Stmt := PySem.Challenge.pw_fieldberth_k37_octets_moved.main.body.getD i (.Pass ⟨0, 0, 0, 0⟩)
abbrev s_is_whole : Stmt := top 1
abbrev N_is_whole : List Str := ["value"]
abbrev P_is_whole : List Str := ["value"]
theorem sc_is_whole : FnScope N_is_whole P_is_whole (defScope s_is_whole) := ⟨rfl, rfl, rfl, by decide +kernel, rfl, by decide +kernel, by decide +kernel⟩
abbrev s_BadOctet___init__ : Stmt := inClass (top 4) 0
abbrev N_BadOctet___init__ : List Str := ["self", "value"]
abbrev P_BadOctet___init__ : List Str := ["self", "value"]
theorem sc_BadOctet___init__ : FnScope N_BadOctet___init__ P_BadOctet___init__ (defScope s_BadOctet___init__) := ⟨rfl, rfl, rfl, by decide +kernel, rfl, by decide +kernel, by decide +kernel⟩
abbrev s_BadAddress___init__ : Stmt := inClass (top 5) 0
abbrev N_BadAddress___init__ : List Str := ["self", "octet"]
abbrev P_BadAddress___init__ : List Str := ["self", "octet"]
theorem sc_BadAddress___init__ : FnScope N_BadAddress___init__ P_BadAddress___init__ (defScope s_BadAddress___init__) := ⟨rfl, rfl, rfl, by decide +kernel, rfl, by decide +kernel, by decide +kernel⟩
abbrev s_Memory___init__ : Stmt := inClass (top 7) 0
abbrev N_Memory___init__ : List Str := ["self", "octets"]
abbrev P_Memory___init__ : List Str := ["self", "octets"]
theorem sc_Memory___init__ : FnScope N_Memory___init__ P_Memory___init__ (defScope s_Memory___init__) := ⟨rfl, rfl, rfl, by decide +kernel, rfl, by decide +kernel, by decide +kernel⟩
abbrev s_Memory___len__ : Stmt := inClass (top 7) 1
abbrev N_Memory___len__ : List Str := ["self"]
abbrev P_Memory___len__ : List Str := ["self"]
theorem sc_Memory___len__ : FnScope N_Memory___len__ P_Memory___len__ (defScope s_Memory___len__) := ⟨rfl, rfl, rfl, by decide +kernel, rfl, by decide +kernel, by decide +kernel⟩
abbrev s_Memory___iter__ : Stmt := inClass (top 7) 2
abbrev N_Memory___iter__ : List Str := ["self"]
abbrev P_Memory___iter__ : List Str := ["self"]
theorem sc_Memory___iter__ : FnScope N_Memory___iter__ P_Memory___iter__ (defScope s_Memory___iter__) := ⟨rfl, rfl, rfl, by decide +kernel, rfl, by decide +kernel, by decide +kernel⟩
abbrev s_Memory___getitem__ : Stmt := inClass (top 7) 3
abbrev N_Memory___getitem__ : List Str := ["self", "at"]
abbrev P_Memory___getitem__ : List Str := ["self", "at"]
theorem sc_Memory___getitem__ : FnScope N_Memory___getitem__ P_Memory___getitem__ (defScope s_Memory___getitem__) := ⟨rfl, rfl, rfl, by decide +kernel, rfl, by decide +kernel, by decide +kernel⟩
abbrev s_Memory___setitem__ : Stmt := inClass (top 7) 4
abbrev N_Memory___setitem__ : List Str := ["self", "at", "worth"]
abbrev P_Memory___setitem__ : List Str := ["self", "at", "worth"]
theorem sc_Memory___setitem__ : FnScope N_Memory___setitem__ P_Memory___setitem__ (defScope s_Memory___setitem__) := ⟨rfl, rfl, rfl, by decide +kernel, rfl, by decide +kernel, by decide +kernel⟩
abbrev s_Memory_octets : Stmt := inClass (top 7) 5
abbrev N_Memory_octets : List Str := ["self"]
abbrev P_Memory_octets : List Str := ["self"]
theorem sc_Memory_octets : FnScope N_Memory_octets P_Memory_octets (defScope s_Memory_octets) := ⟨rfl, rfl, rfl, by decide +kernel, rfl, by decide +kernel, by decide +kernel⟩
abbrev s_Memory_move : Stmt := inClass (top 7) 6
abbrev N_Memory_move : List Str := ["self", "to", "source", "many"]
abbrev P_Memory_move : List Str := ["self", "to", "source", "many"]
theorem sc_Memory_move : FnScope N_Memory_move P_Memory_move (defScope s_Memory_move) := ⟨rfl, rfl, rfl, by decide +kernel, rfl, by decide +kernel, by decide +kernel⟩
abbrev s_is_octet : Stmt := top 8
abbrev N_is_octet : List Str := ["value"]
abbrev P_is_octet : List Str := ["value"]
theorem sc_is_octet : FnScope N_is_octet P_is_octet (defScope s_is_octet) := ⟨rfl, rfl, rfl, by decide +kernel, rfl, by decide +kernel, by decide +kernel⟩
abbrev s_is_address : Stmt := top 9
abbrev N_is_address : List Str := ["value", "length"]
abbrev P_is_address : List Str := ["value", "length"]
theorem sc_is_address : FnScope N_is_address P_is_address (defScope s_is_address) := ⟨rfl, rfl, rfl, by decide +kernel, rfl, by decide +kernel, by decide +kernel⟩
abbrev s_has_room : Stmt := top 10
abbrev N_has_room : List Str := ["start", "many", "length"]
abbrev P_has_room : List Str := ["start", "many", "length"]
theorem sc_has_room : FnScope N_has_room P_has_room (defScope s_has_room) := ⟨rfl, rfl, rfl, by decide +kernel, rfl, by decide +kernel, by decide +kernel⟩
abbrev s_checked_octets : Stmt := top 11
abbrev N_checked_octets : List Str := ["octets", "value"]
abbrev P_checked_octets : List Str := ["octets"]
theorem sc_checked_octets : FnScope N_checked_octets P_checked_octets (defScope s_checked_octets) := ⟨rfl, rfl, rfl, by decide +kernel, rfl, by decide +kernel, by decide +kernel⟩
abbrev s__law_draw : Stmt := top 13
abbrev N__law_draw : List Str := ["_law_stream", "_law_many", "_law_digit", "_law_mixed", "_law_last"]
abbrev P__law_draw : List Str := ["_law_stream", "_law_many"]
theorem sc__law_draw : FnScope N__law_draw P__law_draw (defScope s__law_draw) := ⟨rfl, rfl, rfl, by decide +kernel, rfl, by decide +kernel, by decide +kernel⟩
abbrev s__law_pick : Stmt := top 14
abbrev N__law_pick : List Str := ["_law_stream", "_law_some"]
abbrev P__law_pick : List Str := ["_law_stream", "_law_some"]
theorem sc__law_pick : FnScope N__law_pick P__law_pick (defScope s__law_pick) := ⟨rfl, rfl, rfl, by decide +kernel, rfl, by decide +kernel, by decide +kernel⟩
abbrev s__law_same : Stmt := top 15
abbrev N__law_same : List Str := ["_law_found", "_law_due", "_law_one", "_law_two"]
abbrev P__law_same : List Str := ["_law_found", "_law_due"]
theorem sc__law_same : FnScope N__law_same P__law_same (defScope s__law_same) := ⟨rfl, rfl, rfl, by decide +kernel, rfl, by decide +kernel, by decide +kernel⟩
abbrev s__law_some_octets : Stmt := top 16
abbrev N__law_some_octets : List Str := ["_law_stream", "_law_many", "_law_k"]
abbrev P__law_some_octets : List Str := ["_law_stream", "_law_many"]
theorem sc__law_some_octets : FnScope N__law_some_octets P__law_some_octets (defScope s__law_some_octets) := ⟨rfl, rfl, rfl, by decide +kernel, rfl, by decide +kernel, by decide +kernel⟩
abbrev s__law_moved : Stmt := top 17
abbrev N__law_moved : List Str := ["_law_memory", "_law_to", "_law_source", "_law_many", "_law_found", "e"]
abbrev P__law_moved : List Str := ["_law_memory", "_law_to", "_law_source", "_law_many"]
theorem sc__law_moved : FnScope N__law_moved P__law_moved (defScope s__law_moved) := ⟨rfl, rfl, rfl, by decide +kernel, rfl, by decide +kernel, by decide +kernel⟩
abbrev s__law_place : Stmt := top 18
abbrev N__law_place : List Str := ["_law_stream", "_law_many", "_law_size", "_law_way", "_law_some"]
abbrev P__law_place : List Str := ["_law_stream", "_law_many", "_law_size"]
theorem sc__law_place : FnScope N__law_place P__law_place (defScope s__law_place) := ⟨rfl, rfl, rfl, by decide +kernel, rfl, by decide +kernel, by decide +kernel⟩
abbrev s_law : Stmt := top 19
abbrev N_law : List Str := ["_law_script", "_law_stream", "_law_turn", "_law_size", "_law_rows", "_law_memory", "_law_deed", "_law_many", "_law_to", "_law_source", "_law_bad", "_law_due", "_law_moved_here", "_law_place_here"]
abbrev P_law : List Str := ["_law_script"]
theorem sc_law : FnScope N_law P_law (defScope s_law) := ⟨rfl, rfl, rfl, by decide +kernel, rfl, by decide +kernel, by decide +kernel⟩
/-! ### named readings of some built-ins -/
def rInt1 : List V → Hp → VK → Prop := fun xs H Q => ∃ i, xs = [.int i] ∧ Q (.int i) H
def rLenQ (K : PySem.W.Frag) : List V → Hp → VK → Prop := fun xs H Q => ∃ p ys, xs = [.ref p] ∧ (SqL K H p ys ∨ SqT K H p ys) ∧ Q (.int ys.length) H
def rListQ (K : PySem.W.Frag) : List V → Hp → VK → Prop := fun xs H Q => ∃ p ys, xs = [.ref p] ∧ (SqL K H p ys ∨ SqT K H p ys) ∧ ∀ l, H l = none → Q (.ref l) (upd H l (.lst ys))
def rMax2 : List V → Hp → VK → Prop := fun xs H Q => ∃ i j, xs = [.int i, .int j] ∧ Q (.int (if j > i then j else i)) H
def rMin2 : List V → Hp → VK → Prop := fun xs H Q => ∃ i j, xs = [.int i, .int j] ∧ Q (.int (if j < i then j else i)) H
section
variable {X : Cx}
theorem cq_int : CallR X (.type "int") rInt1 := fun pins s σ H xs us Q I r h => call_int1 pins s σ H xs us Q I r (.inl h)
theorem cq_len : CallR X (.builtin "len") (rLenQ X.K) := call_len_seq
theorem cq_list : CallR X (.type "list") (rListQ X.K) := call_list_of
theorem cq_max (hc : X.calm = true) : CallR X (.builtin "max") rMax2 := call_max2 hc
theorem cq_min (hc : X.calm = true) : CallR X (.builtin "min") rMin2 := call_min2 hc
end
/-! ### what a caller needs of a def, a method, a class -/
section
variable (P : Program) (w : World) (K : PySem.W.Frag) (mg : Str → Option Value) (base : Heap)
structure CallOk (x : Str) (k : Nat) (sp : Sp) : Prop where
  ex : ∃ f fd ps, mg x = some (.ref f) ∧ PySem.W.keepIn K (.ref f) = true ∧ Binds K fd ps [] ∧ FnOk P w K mg base (L2.CX P w) k f fd ps sp
structure MethOk (C : Addr) (m : Str) (k : Nat) (sp : Sp) : Prop where
  ex : ∃ f fd ps, Meth K C m f ∧ Binds K fd ps [] ∧ FnOk P w K mg base (L2.CX P w) k f fd ps sp
structure MakeOk (x : Str) (C : Addr) (k : Nat) (sp : Sp) : Prop where
  ex : ∃ f fd ps, Mk K C f ∧ mg x = some (.ref C) ∧ Binds K fd ps [] ∧ FnOk P w K mg base (L2.CX P w) k f fd ps sp
/-- a def of the text: where it stands, that its arguments bind -/
structure Def (x : Str) (st : Stmt) (ps : List Str) : Prop where
  ex : ∃ f fd, Fun K x x st f fd ∧ mg x = some (.ref f) ∧ Binds K fd ps []
structure DefM (C : Addr) (m qual : Str) (st : Stmt) (ps : List Str) : Prop where
  ex : ∃ f fd, Fun K m qual st f fd ∧ Meth K C m f ∧ Binds K fd ps []
end
/-- a reading may be weakened behind -/
def tUpA (t : TA) : TA := fun σ H R => ∃ R', t σ H R' ∧ ∀ vs H1, R' vs H1 → R vs H1
def tUpT (t : TT) : TT := fun σ H R => ∃ R', t σ H R' ∧ ∀ b H1, R' b H1 → R b H1
def tUpS (t : TS) : TS := fun D σ H => ∃ N : St → Hp → Prop, (∀ σ H, N σ H → D.nx σ H) ∧ t { D with nx := N } σ H
theorem ps_up {X : Cx} {st : Stmt} {t : TS} (h : PS X st t) : PS X st (tUpS t) :=
  ⟨fun pins s σ H D I ⟨N, m, q⟩ => thn (h.run pins s σ H { D with nx := N } I q) fun f s' z => by
    cases f with
    | next => obtain ⟨σ', H', I', q'⟩ := z; exact ⟨σ', H', I', m σ' H' q'⟩
    | brk => exact z
    | cont => exact z
    | ret u => exact z⟩
theorem w_up {t : TS} {D : Ends} {σ : St} {H : Hp} (N : St → Hp → Prop) (m : ∀ σ H, N σ H → D.nx σ H) (q : t { D with nx := N } σ H) : tUpS t D σ H := ⟨N, m, q⟩
theorem pa_up {X : Cx} {es : List Expr} {t : TA} (h : PA X es t) : PA X es (tUpA t) :=
  ⟨fun pos pins s σ H Q I ⟨R', q, m⟩ => thn (h.run pos pins s σ H R' I q) fun us s' ⟨vs, H1, I1, r, z⟩ => ⟨vs, H1, I1, r, m vs H1 z⟩⟩
theorem pt_up {X : Cx} {e : Expr} {t : TT} (h : PT X e t) : PT X e (tUpT t) :=
  ⟨fun pins s σ H Q I ⟨R', q, m⟩ => thn (h.run pins s σ H R' I q) fun b s' ⟨H1, I1, z⟩ => ⟨H1, I1, m b H1 z⟩⟩
/-- what the error class's __init__ does: self.f = v -/
def spErr (C : Addr) (f : Str) : Sp := fun vs H Q _ => ∃ (a : Addr) (v : V), vs = [.ref a, v] ∧ H a = some (exo a C none) ∧ ∀ d, H d = none → d ≠ a → Q .non (upd (upd H d (exd d [(f, v)])) a (exo a C (some d)))
structure ErrOk (P : Program) (w : World) (K : PySem.W.Frag) (mg : Str → Option Value) (base : Heap) (x : Str) (C : Addr) (f : Str) : Prop where
  mgC : mg x = some (.ref C)
  oex : OexC K C
  xf : XfC K C
  nf : PySem.W.findIn K (.ref C) f = some none
  ex : ∃ fI fd ps, PySem.W.findIn K (.ref C) "__init__" = some (some (.ref fI)) ∧ PySem.W.typeIn K (.ref fI) = some (.type "function") ∧ Binds K fd ps [] ∧ FnOk P w K mg base CX0 1 fI fd ps (spErr C f)
/-- raise X(e): where the way leads -/
def tErr (C : Addr) (f : Str) (ta : TA) : St → Hp → XK → Prop := fun σ H Q => ta σ H fun vs H1 => ∃ v, vs = [v] ∧ ∀ d H', H1 d = none → Same H1 H' → H' d = some (.xd [(f, v)]) → Q (.ref C) (some d) H'
section
variable {X : Cx} {e o : Expr} {es : List Expr} {ta : TE} {t : TA} {x m : Str} {p pos apos : Pos} {k : Nat} {sp : Sp} {C : Addr}
theorem FnOk.up {P : Program} {w : World} {K : PySem.W.Frag} {mg : Str → Option Value} {base : Heap} {f : Addr} {fd : FuncData} {ps : List Str} (F : FnOk P w K mg base CX0 k f fd ps sp) : FnOk P w K mg base (L2.CX P w) k f fd ps sp :=
  ⟨F.len, fun A outer s H args us vs Q E hr he hb hv hs => codeAny_mono (F.run A outer s H args us vs Q E hr he hb hv hs) fun r s' h => by
    cases r with
    | error e => exact False.elim h
    | ok fl => cases fl <;> exact h⟩
theorem Def.call {P : Program} {w : World} {K : PySem.W.Frag} {mg : Str → Option Value} {base : Heap} {x : Str} {st : Stmt} {ps : List Str} {k : Nat} {sp : Sp} (D : Def K mg x st ps) (h : ∀ f fd, Fun K x x st f fd → FnOk P w K mg base CX0 k f fd ps sp) : CallOk P w K mg base x k sp :=
  let ⟨f, fd, F, g, b⟩ := D.ex
  ⟨f, fd, ps, g, F.kp, b, FnOk.up (h f fd F)⟩
theorem Def.callX {P : Program} {w : World} {K : PySem.W.Frag} {mg : Str → Option Value} {base : Heap} {x : Str} {st : Stmt} {ps : List Str} {k : Nat} {sp : Sp} (D : Def K mg x st ps) (h : ∀ f fd, Fun K x x st f fd → FnOk P w K mg base (L2.CX P w) k f fd ps sp) : CallOk P w K mg base x k sp :=
  let ⟨f, fd, F, g, b⟩ := D.ex
  ⟨f, fd, ps, g, F.kp, b, h f fd F⟩
theorem DefM.meth {P : Program} {w : World} {K : PySem.W.Frag} {mg : Str → Option Value} {base : Heap} {C : Addr} {m qual : Str} {st : Stmt} {ps : List Str} {k : Nat} {sp : Sp} (D : DefM K C m qual st ps) (h : ∀ f fd, Fun K m qual st f fd → FnOk P w K mg base CX0 k f fd ps sp) : MethOk P w K mg base C m k sp :=
  let ⟨f, fd, F, g, b⟩ := D.ex
  ⟨f, fd, ps, g, b, FnOk.up (h f fd F)⟩
theorem DefM.methX {P : Program} {w : World} {K : PySem.W.Frag} {mg : Str → Option Value} {base : Heap} {C : Addr} {m qual : Str} {st : Stmt} {ps : List Str} {k : Nat} {sp : Sp} (D : DefM K C m qual st ps) (h : ∀ f fd, Fun K m qual st f fd → FnOk P w K mg base (L2.CX P w) k f fd ps sp) : MethOk P w K mg base C m k sp :=
  let ⟨f, fd, F, g, b⟩ := D.ex
  ⟨f, fd, ps, g, b, h f fd F⟩
/-- no star among the arguments; the call of a method as the machine takes it -/
def Star1 (X : Cx) (e : Expr) (es : List Expr) : Prop := starEach (e :: es) X.env = (false, eval e X.env) :: starEach es X.env
def NoStar (X : Cx) (es : List Expr) (pos : Pos) : Prop := (backTo pos (starEach es X.env)).any (·.1) = false
def MethEq (X : Cx) (o : Expr) (m : Str) (apos : Pos) (es : List Expr) (pos : Pos) (pl : Sem Bool) : Prop := eval (.Call (.Attribute o m apos) es [] pos) X.env = (do let ov ← eval o X.env; standAt apos.atName; let (f, first) ← holding [ov] (getMethod ov m pl); callWith pos f first (backTo pos (starEach es X.env)) (backToKw pos (keywordEach [] X.env)))
abbrev COk (X : Cx) := CallOk X.prog X.w X.K X.mg X.base
abbrev MOk (X : Cx) := MethOk X.prog X.w X.K X.mg X.base
abbrev KOk (X : Cx) := MakeOk X.prog X.w X.K X.mg X.base
abbrev EOk (X : Cx) := ErrOk X.prog X.w X.K X.mg X.base
/-- f(e, ..), nothing raised -/
theorem pe_callD (D : COk X x k sp) (hr : Room k X.A) (hg : Gl X x) (ha : PA X (e :: es) t) (hdb : (x == ("__debug__" : Str)) = false := by decide)
    (he : Star1 X e es := by exact rfl) (hpl : NoStar X es pos := by exact rfl) : PE X (.Call (.Name x p) (e :: es) [] pos) (tCall sp [] E0 t) :=
  let ⟨_, _, _, g, kp, b, F⟩ := D.ex
  pe_call F hr hg g kp b .nil passL ha hdb he hpl
/-- f(e, ..) whose errors reach this def's wish W at the slots as they stand -/
theorem pe_callW {W : WX} (tk : Takes X W) (D : COk X x k sp) (hr : Room k X.A) (hg : Gl X x) (ha : PA X (e :: es) t) (hdb : (x == ("__debug__" : Str)) = false := by decide)
    (he : Star1 X e es := by exact rfl) (hpl : NoStar X es pos := by exact rfl) : PE X (.Call (.Name x p) (e :: es) [] pos) (tCallS sp (WE W) t) :=
  let ⟨_, _, _, g, kp, b, F⟩ := D.ex
  pe_callS F hr hg g kp b (fun σ => passAt tk σ) ha hdb he hpl
theorem pe_methD {pl : Sem Bool} (he : PE X o ta) (c : Cls X.K C) (D : MOk X C m k sp) (hr : Room k X.A) (ha : PA X (e :: es) t)
    (hst : Star1 X e es := by exact rfl) (hpl : NoStar X es pos := by exact rfl)
    (ht : MethEq X o m apos (e :: es) pos pl := by exact rfl) :
    PE X (.Call (.Attribute o m apos) (e :: es) [] pos) (tMeth C m sp [] E0 ta t) :=
  let ⟨_, _, _, M, b, F⟩ := D.ex
  pe_meth he c M F hr b .nil passL ha hst hpl ht
theorem pe_meth0D {pl : Sem Bool} (he : PE X o ta) (c : Cls X.K C) (D : MOk X C m k sp) (hr : Room k X.A)
    (ht : MethEq X o m apos [] pos pl := by exact rfl) :
    PE X (.Call (.Attribute o m apos) [] [] pos) (tMeth C m sp [] E0 ta tNil) :=
  let ⟨_, _, _, M, b, F⟩ := D.ex
  pe_meth0 he c M F hr b .nil passL ht
/-- o.m(e, ..) whose errors reach W -/
def tMethW (C : Addr) (m : Str) (sp : Sp) (E : St → XK) (ta : TE) (t : TA) : TE := fun σ H Q => ta σ H fun x H1 => ∃ a dx fs, x = .ref a ∧ H1 a = some (.ins C dx fs) ∧ fs.lookup m = none ∧ t σ H1 fun vs H2 => sp (x :: vs) H2 Q (E σ)
theorem pe_methW {W : WX} {pl : Sem Bool} (tk : Takes X W) (he : PE X o ta) (c : Cls X.K C) (D : MOk X C m k sp) (hr : Room k X.A) (ha : PA X (e :: es) t)
    (hst : Star1 X e es := by exact rfl) (hpl : NoStar X es pos := by exact rfl)
    (ht : MethEq X o m apos (e :: es) pos pl := by exact rfl) :
    PE X (.Call (.Attribute o m apos) (e :: es) [] pos) (tMethW C m sp (WE W) ta t) := by
  obtain ⟨f, fd, ps, M, b, F⟩ := D.ex
  refine ⟨fun pins s σ H Q I h => PySem.W.methodCall_KW (pl := pl) (thn (he.run pins s σ H _ I h) ?_) ht⟩
  rintro u s1 ⟨x1, H1, I1, rx, a, dx, fs, rfl, ea, l, q⟩
  cases rx
  refine getmeth_ok I1 ea c M l (PySem.W.callWith_K (first := [.ref a]) (h₀ := X.base) I.ok.mod.kin M.kp (thn (ha.run pos pins s1 σ H1 _ I1 q) ?_) hst hpl)
  rintro us s2 ⟨vs, H2, I2, r, q2⟩
  exact ⟨I2.kIn, run_fnS (us := .ref a :: us) (vs := .ref a :: vs) F hr b (passAt tk σ) I2 (.cons rfl r) q2⟩
theorem pe_makeD (D : KOk X x C k sp) (hr : Room (k + 1) X.A) (hg : Gl X x) (ha : PA X (e :: es) t) (hdb : (x == ("__debug__" : Str)) = false := by decide)
    (he : Star1 X e es := by exact rfl) (hpl : NoStar X es pos := by exact rfl) : PE X (.Call (.Name x p) (e :: es) [] pos) (tMake C sp [] E0 t) :=
  let ⟨_, _, _, M, g, b, F⟩ := D.ex
  pe_make M F hr hg g b .nil passL ha hdb he hpl
theorem pmk_err {f : Str} (D : EOk X x C f) (hr : Room 2 X.A) (hg : Gl X x) (ha : PA X (e :: es) t) (hdb : (x == ("__debug__" : Str)) = false := by decide)
    (he : Star1 X e es := by exact rfl) (hpl : NoStar X es pos := by exact rfl) : PMk X (.Call (.Name x p) (e :: es) [] pos) (tErr C f t) := by
  obtain ⟨fI, fd, ps, iC, tI, b, F⟩ := D.ex
  intro pins s σ H Q I h
  refine pmk_oex (sp := spErr C f) D.oex iC tI F hr b .nil pass0 hg D.mgC (pa_up ha) hdb he hpl pins s σ H Q I ⟨_, h, ?_⟩
  rintro vs H1 ⟨v, rfl, k⟩
  refine ⟨by show 1 ≤ 1000; decide, fun a ha => ⟨a, v, rfl, upd_same, fun d hd hda => ⟨rfl, d, [(f, v)], upd_same, ?_, ?_, ?_⟩⟩⟩
  · rw [upd_ne hda]; exact upd_same
  · rw [upd_ne hda] at hd; exact hd
  · have hd1 : H1 d = none := by rw [upd_ne hda] at hd; exact hd
    refine k d _ hd1 (fun q o hq => ?_) upd_same
    have qd : q ≠ d := ne_of_none hq hd1
    have qa : q ≠ a := ne_of_none hq ha
    rw [upd_ne qd, del_ne qa, upd_ne qa, upd_ne qd, upd_ne qa]
    exact hq
end
/-! ### the same rules where the written part is told by a name of its own (within comprehensions) -/
section
variable {X : Cx} {K : PySem.W.Frag}
theorem ixL_k (h : X.K = K) : IxR X (rIxL K) := by subst h; exact ix_list
theorem ixT_k (h : X.K = K) : IxR X (rIxT K) := by subst h; exact ix_tup
theorem slL_k (h : X.K = K) : SlR X (rSlL K) := by subst h; exact sl_list
theorem slT_k (h : X.K = K) : SlR X (rSlT K) := by subst h; exact sl_tup
theorem eqD_k (hu : X.A.units + 64 < cLine) (h : X.K = K) : OpR X (compareOp .Eq) (rEqD K) := by subst h; exact op_eqD hu
theorem neD_k (hu : X.A.units + 64 < cLine) (h : X.K = K) : OpR X (compareOp .NotEq) (rNeD K) := by subst h; exact op_neD hu
theorem in_k (h : X.K = K) : OpR X (compareOp .In) (rIn K false) := by subst h; exact op_in_seq
theorem notIn_k (h : X.K = K) : OpR X (compareOp .NotIn) (rIn K true) := by subst h; exact op_notIn_seq
theorem len_k (h : X.K = K) : CallR X (.builtin "len") (rLenQ K) := by subst h; exact cq_len
theorem list_k (h : X.K = K) : CallR X (.type "list") (rListQ K) := by subst h; exact cq_list
theorem all_k (hc : X.calm = true) (h : X.K = K) : CallR X (.builtin "all") (rAll K) := by subst h; exact cr_all hc
theorem any_k (hc : X.calm = true) (h : X.K = K) : CallR X (.builtin "any") (rAny K) := by subst h; exact cr_any hc
theorem isi_k (h : X.K = K) : CallR X (.builtin "isinstance") (rIsi K) := by subst h; exact call_isi
theorem isiT_k (h : X.K = K) : CallR X (.builtin "isinstance") (rIsiT K) := by subst h; exact call_isiT
theorem fld_k {e : Expr} {ta : TE} {f : Str} {pos : Pos} (h : X.K = K) (he : PE X e ta) (hb : attributeBase e f X.env (eval e X.env) = eval e X.env) : PE X (.Attribute e f pos) (tFld K ta f) := by subst h; exact pe_fld he hb
theorem gtup_k {es : List Expr} {k : Nat} {t : TGs} {n : Nat} {pos : Pos} (h : X.K = K) (hc : X.calm = true) (hg : PGs X es t) (hn : (assignEach es X.env).length = n := by rfl) (hs : (assignEach es X.env).findIdx? (·.1) = none := by rfl) : PG X (.Tuple es k pos) (gTup K n t) := by subst h; exact pg_tup hc hg hn hs
theorem ilist_k {tg l : Expr} {tl : TE} (h : X.K = K) (hl : PE X l tl) : PI X tg l (iList K tl) := by subst h; exact pi_list hl
theorem itup_k {tg l : Expr} {tl : TE} (h : X.K = K) (hl : PE X l tl) : PI X tg l (iTup K tl) := by subst h; exact pi_tup hl
end
/-- behind raise X(e) -/
def ErrR (C : Addr) (f : Str) (vs : List V) (H1 : Hp) (Q : XK) : Prop := ∃ v, vs = [v] ∧ ∀ d H', H1 d = none → Same H1 H' → H' d = some (.xd [(f, v)]) → Q (.ref C) (some d) H'
theorem w_err {C : Addr} {f : Str} {ta : TA} {σ : St} {H : Hp} {Q : XK} (h : ta σ H fun vs H1 => ErrR C f vs H1 Q) : tErr C f ta σ H Q := h
theorem w_errGo {C : Addr} {f : Str} {v : V} {H : Hp} {Q : XK} (h : ∀ d H', H d = none → Same H H' → H' d = some (.xd [(f, v)]) → Q (.ref C) (some d) H') : ErrR C f [v] H Q := ⟨v, rfl, h⟩

/-! ### the walk: one lemma for each word of a reading -/
section
variable {σ : St} {H : Hp} {Q : VK} {D : Ends} {ta tb tc te : TE} {K : PySem.W.Frag}
theorem hg_new {H : Hp} {a b : Addr} {o u : HO} (h : H a = none) (q : H b = some u) : upd H a o b = some u := by rw [upd_ne (ne_of_none q h)]; exact q
theorem Same.new {H : Hp} {a : Addr} {o : HO} (h : H a = none) : Same H (upd H a o) := fun _ _ q => hg_new h q
theorem hg_ne {H : Hp} {a b : Addr} {o u : HO} (h : b ≠ a) (q : H b = some u) : upd H a o b = some u := by rw [upd_ne h]; exact q
theorem w_seq {t u : TS} (h : t { D with nx := u D } σ H) : tSeq t u D σ H := h
theorem w_next (h : D.nx σ H) : tNext D σ H := h
theorem w_asg {g : TG} (h : te σ H fun x H1 => g x σ H1 D.nx) : tAsg te g D σ H := h
theorem w_drop (h : te σ H fun _ H1 => D.nx σ H1) : tDrop te D σ H := h
theorem w_ret (h : te σ H D.rt) : tRet te D σ H := h
theorem w_if {c : TT} {t u : TS} (h : c σ H fun b H1 => if b = true then t D σ H1 else u D σ H1) : tIfS c t u D σ H := h
theorem w_name {i : Nat} {v : V} {R : St → Hp → Prop} (h : R (σ.set i (some v)) H) : gName i v σ H R := h
theorem w_sub {to ti : TE} {t : TSet} {v : V} {R : St → Hp → Prop} (h : to σ H fun o H1 => ti σ H1 fun i H2 => t o i v H2 fun H3 => R σ H3) : gSub to ti t v σ H R := h
theorem w_setL {p : Addr} {xs : List V} {k : Int} {j : Nat} {v : V} {R : Hp → Prop} (h : H p = some (.lst xs)) (hj : ixN xs.length k = some j) (q : R (upd H p (.lst (xs.set j v)))) : rSetL (.ref p) (.int k) v H R := ⟨p, xs, k, j, rfl, rfl, h, hj, q⟩
theorem w_var {i : Nat} {v : V} (h : σ[i]? = some (some v)) (q : Q v H) : tVar i σ H Q := ⟨v, h, q⟩
theorem w_c {v : V} (q : Q v H) : tC v σ H Q := q
theorem w_op {r : R2} (h : ta σ H fun x H1 => tb σ H1 fun y H2 => r x y H2 Q) : tOp r ta tb σ H Q := h
theorem w_un {r : V → Hp → VK → Prop} (h : ta σ H fun x H1 => r x H1 Q) : tUn r ta σ H Q := h
theorem w_U {g : Int → V} {i : Int} (q : Q (g i) H) : rU g (.int i) H Q := ⟨i, rfl, q⟩
theorem w_I0 {g : Int → Int → V} {i j : Int} (q : Q (g i j) H) : rI0 g (.int i) (.int j) H Q := ⟨i, j, rfl, rfl, q⟩
theorem w_I {C : Int → Int → Prop} {g : Int → Int → V} {i j : Int} (c : C i j) (q : Q (g i j) H) : rI C g (.int i) (.int j) H Q := ⟨i, j, rfl, rfl, c, q⟩
theorem w_eq {x y : V} (h : scal x y = true) (q : Q (.bl (decide (x = y))) H) : rEq x y H Q := ⟨h, q⟩
theorem w_ne {x y : V} (h : scal x y = true) (q : Q (.bl (!decide (x = y))) H) : rNe x y H Q := ⟨h, q⟩
theorem w_test {R : Bool → Hp → Prop} (h : te σ H fun x H1 => ∃ k, x = .bl k ∧ R k H1) : tTest te σ H R := h
theorem w_B {R : Bool → Hp → Prop} (h : te σ H fun x H1 => ∃ k, x = .bl k ∧ R k H1) : tB te σ H R := h
theorem w_bl {b : Bool} {R : Bool → Prop} (h : R b) : ∃ k, V.bl b = .bl k ∧ R k := ⟨b, rfl, h⟩
theorem w_not {t : TT} {R : Bool → Hp → Prop} (h : t σ H fun c H1 => R (!c) H1) : tNot t σ H R := h
theorem w_and {t u : TT} {R : Bool → Hp → Prop} (h : t σ H fun c H1 => if c = true then u σ H1 R else R false H1) : tAnd t u σ H R := h
theorem w_or {t u : TT} {R : Bool → Hp → Prop} (h : t σ H fun c H1 => if c = true then R true H1 else u σ H1 R) : tOr t u σ H R := h
theorem w_ifE {t : TT} (h : t σ H fun c H1 => if c = true then ta σ H1 Q else tb σ H1 Q) : tIf t ta tb σ H Q := h
theorem w_andV (h : ta σ H fun x H1 => ∃ c, x = .bl c ∧ if c = true then tb σ H1 Q else Q (.bl false) H1) : tAndV ta tb σ H Q := h
theorem w_orV (h : ta σ H fun x H1 => ∃ c, x = .bl c ∧ if c = true then Q (.bl true) H1 else tb σ H1 Q) : tOrV ta tb σ H Q := h
theorem w_notV (h : ta σ H fun x H1 => ∃ c, x = .bl c ∧ Q (.bl (!c)) H1) : tNotV ta σ H Q := h
theorem w_chain {r r' : R2} (h : ta σ H fun x H1 => tb σ H1 fun y H2 => r x y H2 fun z H3 => ∃ k, z = .bl k ∧ (if k = true then tc σ H3 fun w' H4 => r' y w' H4 Q else Q (.bl false) H3)) : tChain r r' ta tb tc σ H Q := h
theorem w_ixL {p : Addr} {xs : List V} {i : Int} {v : V} (h : H p = some (.lst xs)) (ha : atI xs i = some v) (q : Q v H) : rIxL K (.ref p) (.int i) H Q := ⟨p, xs, i, v, rfl, rfl, SqL.of h, ha, q⟩
theorem w_ixT {p : Addr} {xs : List V} {i : Int} {v : V} (h : H p = some (.tup xs)) (ha : atI xs i = some v) (q : Q v H) : rIxT K (.ref p) (.int i) H Q := ⟨p, xs, i, v, rfl, rfl, SqT.of h, ha, q⟩
theorem w_nil {R : List V → Hp → Prop} (q : R [] H) : tNil σ H R := q
theorem w_cons {tr : TA} {R : List V → Hp → Prop} (h : te σ H fun x H1 => tr σ H1 fun xs H2 => R (x :: xs) H2) : tCons te tr σ H R := h
abbrev LstR (xs : List V) (H1 : Hp) (Q : VK) : Prop := xs.length ≤ sizeLine ∧ ∀ p, H1 p = none → Q (.ref p) (upd H1 p (.lst xs))
abbrev TupR (xs : List V) (H1 : Hp) (Q : VK) : Prop := xs.length ≤ sizeLine ∧ ∀ p, H1 p = none → Q (.ref p) (upd H1 p (.tup xs))
theorem w_lst {t : TA} (h : t σ H fun xs H1 => LstR xs H1 Q) : tLst t σ H Q := h
theorem w_lstGo {xs : List V} (h : xs.length ≤ sizeLine) (k : ∀ p, H p = none → Q (.ref p) (upd H p (.lst xs))) : LstR xs H Q := ⟨h, k⟩
theorem w_tupGo' {xs : List V} (h : xs.length ≤ sizeLine) (k : ∀ p, H p = none → Q (.ref p) (upd H p (.tup xs))) : TupR xs H Q := ⟨h, k⟩
theorem w_tup {t : TA} (h : t σ H fun xs H1 => TupR xs H1 Q) : tTup t σ H Q := h
theorem w_cb {r : List V → Hp → VK → Prop} {t : TA} (h : t σ H fun vs H1 => r vs H1 Q) : tCB r t σ H Q := h
theorem w_bm {T : String} {r : V → List V → Hp → VK → Prop} {t : TA} (h : te σ H fun x H1 => tyV K T x H1 ∧ t σ H1 fun xs H2 => r x xs H2 Q) : tBM K T r te t σ H Q := h
theorem w_call {sp : Sp} {E : XK} {t : TA} (h : t σ H fun vs H1 => sp vs H1 Q E) : tCall sp [] E t σ H Q := by
  show t σ H fun vs H1 => sp (vs ++ []) H1 Q E
  have e : (fun vs H1 => sp (vs ++ []) H1 Q E) = fun vs H1 => sp vs H1 Q E := by funext vs H1; rw [List.append_nil]
  rw [e]; exact h
theorem w_tyL {p : Addr} {xs : List V} {A : Prop} (h : H p = some (.lst xs)) (q : A) : tyV K "list" (.ref p) H ∧ A := ⟨.inl ⟨rfl, xs, SqL.of h⟩, q⟩
theorem w_pop0 {l : Addr} {y : V} {r : List V} (h : H l = some (.lst (y :: r))) (q : Q y (upd H l (.lst r))) : rPopAt (.ref l) [.int 0] H Q :=
  ⟨l, y :: r, 0, 0, y, rfl, rfl, h, by decide, by decide, by
    unfold seqIndex?
    simp, rfl, q⟩
theorem w_app {l : Addr} {y : V} {xs : List V} (h : H l = some (.lst xs)) (hz : xs.length < sizeLine) (q : Q .non (upd H l (.lst (xs ++ [y])))) : rAppend (.ref l) [y] H Q := ⟨l, xs, y, rfl, rfl, h, hz, q⟩
theorem w_int1 {i : Int} (q : Q (.int i) H) : rInt1 [.int i] H Q := ⟨i, rfl, q⟩
theorem w_len {p : Addr} {xs : List V} (h : H p = some (.lst xs)) (q : Q (.int xs.length) H) : rLenQ K [.ref p] H Q := ⟨p, xs, rfl, .inl (SqL.of h), q⟩
theorem w_lenT {p : Addr} {xs : List V} (h : H p = some (.tup xs)) (q : Q (.int xs.length) H) : rLenQ K [.ref p] H Q := ⟨p, xs, rfl, .inr (SqT.of h), q⟩
theorem w_list {p : Addr} {xs : List V} (h : H p = some (.lst xs)) (q : ∀ l, H l = none → Q (.ref l) (upd H l (.lst xs))) : rListQ K [.ref p] H Q := ⟨p, xs, rfl, .inl (SqL.of h), q⟩
theorem w_max {i j : Int} (q : Q (.int (if j > i then j else i)) H) : rMax2 [.int i, .int j] H Q := ⟨i, j, rfl, q⟩
theorem w_min {i j : Int} (q : Q (.int (if j < i then j else i)) H) : rMin2 [.int i, .int j] H Q := ⟨i, j, rfl, q⟩
theorem w_while {t : TT} {tb : TS} {D : Ends} {σ : St} {H : Hp} (W : Nat → St → Hp → Prop) (Z : St → Hp → Prop) (m : Nat) (h0 : W m σ H) (hz : ∀ σ H, Z σ H → D.nx σ H)
    (h : ∀ m σ H, W m σ H → t σ H fun b H1 => if b = true then tb { D with nx := fun σ' H' => ∃ m', m' < m ∧ W m' σ' H', ct := fun σ' H' => ∃ m', m' < m ∧ W m' σ' H', bk := D.nx } σ H1 else Z σ H1) : tWhile (tUpT t) tb D σ H :=
  ⟨W, ⟨m, h0⟩, fun m σ H w => ⟨_, h m σ H w, fun b H1 q => by
    cases b with
    | true => exact ⟨_, fun _ _ n => n, q⟩
    | false => exact hz _ _ q⟩⟩
end
theorem w_ite {p A B : Prop} [Decidable p] (h1 : p → A) (h2 : ¬ p → B) : if decide p = true then A else B := by
  by_cases h : p
  · rw [if_pos (decide_eq_true h)]; exact h1 h
  · rw [if_neg (by rw [decide_eq_false h]; exact Bool.false_ne_true)]; exact h2 h
theorem w_iteNT {A B : Prop} (h : B) : if (!true) = true then A else B := iteF h
theorem w_iteNF {A B : Prop} (h : A) : if (!false) = true then A else B := iteT h
theorem w_iteSame {α : Type} {a : α} {i : Decidable (a = a)} {A B : Prop} (h : A) : if @decide (a = a) i = true then A else B := by rw [if_pos (decide_eq_true rfl)]; exact h
theorem w_iteNSame {α : Type} {a : α} {i : Decidable (a = a)} {A B : Prop} (h : B) : if (!@decide (a = a) i) = true then A else B := by rw [decide_eq_true (rfl : a = a)]; exact iteF h
theorem decSame {α : Type} {a : α} {i : Decidable (a = a)} : @decide (a = a) i = true := decide_eq_true rfl
theorem w_iteI {x y : Int} {A B : Prop} (h1 : x = y → A) (h2 : ¬ x = y → B) : if decide (V.int x = V.int y) = true then A else B :=
  w_ite (fun h => h1 (V.int.inj h)) (fun h => h2 fun e => h (by rw [e]))
theorem w_iteNI {x y : Int} {A B : Prop} (h1 : ¬ x = y → A) (h2 : x = y → B) : if (!decide (V.int x = V.int y)) = true then A else B := by
  by_cases h : x = y
  · subst h; rw [decide_eq_true rfl]; exact iteF (h2 rfl)
  · rw [decide_eq_false (fun e => h (V.int.inj e))]; exact iteT (h1 h)
theorem w_iteN {b : Bool} {A B : Prop} (h1 : b = false → A) (h2 : b = true → B) : if (!b) = true then A else B := by
  cases b with
  | true => exact iteF (h2 rfl)
  | false => exact iteT (h1 rfl)
theorem w_iteB {b : Bool} {A B : Prop} (h1 : b = true → A) (h2 : b = false → B) : if b = true then A else B := by
  cases b with
  | true => exact iteT (h1 rfl)
  | false => exact iteF (h2 rfl)
theorem Dp.ints {K : PySem.W.Frag} {H : Hp} : ∀ xs : List Int, DpAll K H (xs.map V.int) (xs.map PyData.int)
  | [] => .nil
  | x :: r => .cons (.int x) (Dp.ints r)
theorem lay_ints : ∀ xs : List Int, PyData.canLayAll0 (xs.map PyData.int) = true
  | [] => by simp [PyData.canLayAll0]
  | x :: r => by simp [PyData.canLayAll0, PyData.canLay0, lay_ints r]
theorem depth_ints : ∀ xs : List Int, PyData.depthAll (xs.map PyData.int) = 0
  | [] => by simp [PyData.depthAll]
  | x :: r => by simp [PyData.depthAll, PyData.depth, depth_ints r]
theorem shaped_ints (xs : List Int) : SeqAt.shaped (.list (xs.map PyData.int)) = true := by
  unfold SeqAt.shaped
  rw [Bool.and_eq_true]
  exact ⟨by simp only [PyData.canLay0]; exact lay_ints xs, decide_eq_true (by simp only [PyData.depth, depth_ints]; omega)⟩
/-! ### slices -/
section
variable {σ : St} {H : Hp} {Q : VK} {te : TE} {tl th : TO} {K : PySem.W.Frag}
def PartR (R : Option Int → Hp → Prop) (x : V) (H1 : Hp) : Prop := ∃ i, x = .int i ∧ R (some i) H1
theorem w_sl {r : V → Option Int → Option Int → Hp → VK → Prop} (h : te σ H fun x H1 => tl σ H1 fun l H2 => th σ H2 fun u H3 => r x l u H3 Q) : tSl r te tl th σ H Q := h
theorem w_part {R : Option Int → Hp → Prop} (h : te σ H fun x H1 => PartR R x H1) : tPart te σ H R := h
theorem w_nopart {R : Option Int → Hp → Prop} (h : R none H) : tNoPart σ H R := h
theorem w_cat {a b : Addr} {xs ys : List V} (h1 : H a = some (.lst xs)) (h2 : H b = some (.lst ys)) (hz : xs.length + ys.length ≤ sizeLine) (k : ∀ p, H p = none → Q (.ref p) (upd H p (.lst (xs ++ ys)))) : rCat (.ref a) (.ref b) H Q := ⟨a, b, xs, ys, rfl, rfl, h1, h2, hz, k⟩
theorem w_partGo {R : Option Int → Hp → Prop} {i : Int} (h : R (some i) H) : PartR R (.int i) H := ⟨i, rfl, h⟩
theorem w_slL {a : Addr} {xs : List V} {lo hi : Option Int} (h : H a = some (.lst xs)) (k : ∀ p, H p = none → Q (.ref p) (upd H p (.lst (cutV xs lo hi)))) : rSlL K (.ref a) lo hi H Q := ⟨a, xs, rfl, SqL.of h, k⟩
end
/-! ### instances -/
section
variable {σ : St} {H : Hp} {Q : VK} {D : Ends} {ta tv : TE} {t : TA} {K : PySem.W.Frag} {C dx a : Addr} {fs : List (Str × V)} {f m : Str} {v y : V} {sp : Sp} {E : XK}
def FldR (K : PySem.W.Frag) (f : Str) (x : V) (H1 : Hp) (Q : VK) : Prop := ∃ a C dx fs v, x = .ref a ∧ H1 a = some (.ins C dx fs) ∧ Cls K C ∧ NoAttr K C f ∧ fs.lookup f = some v ∧ Q v H1
def SFldR (K : PySem.W.Frag) (f : Str) (y x : V) (H2 : Hp) (R : Hp → Prop) : Prop := ∃ a C dx fs, x = .ref a ∧ H2 a = some (.ins C dx fs) ∧ Cls K C ∧ NoAttr K C f ∧ fs.length < 1000 ∧ R (upd H2 a (.ins C dx (putF f y fs)))
def MakeR (C : Addr) (sp : Sp) (vs : List V) (H1 : Hp) (Q : VK) (E : XK) : Prop := ∀ x dx, H1 x = none → H1 dx = none → dx ≠ x → sp (.ref x :: vs) (upd (upd H1 dx (.own x)) x (.ins C dx [])) (fun v H2 => v = .non ∧ Q (.ref x) H2) E
def MethR (C : Addr) (m : Str) (sp : Sp) (E : XK) (t : TA) (σ : St) (x : V) (H1 : Hp) (Q : VK) : Prop := ∃ a dx fs, x = .ref a ∧ H1 a = some (.ins C dx fs) ∧ fs.lookup m = none ∧ t σ H1 fun vs H2 => sp (x :: vs) H2 Q E
theorem w_fld (h : ta σ H fun x H1 => FldR K f x H1 Q) : tFld K ta f σ H Q := h
theorem w_fldGo (h : H a = some (.ins C dx fs)) (c : Cls K C) (n : NoAttr K C f) (l : fs.lookup f = some v) (q : Q v H) : FldR K f (.ref a) H Q := ⟨a, C, dx, fs, v, rfl, h, c, n, l, q⟩
theorem w_sfld (h : tv σ H fun y H1 => ta σ H1 fun x H2 => SFldR K f y x H2 fun H3 => D.nx σ H3) : sFld K ta tv f D σ H := h
theorem w_sfldGo {R : Hp → Prop} (h : H a = some (.ins C dx fs)) (c : Cls K C) (n : NoAttr K C f) (l : fs.length < 1000) (q : R (upd H a (.ins C dx (putF f y fs)))) : SFldR K f y (.ref a) H R := ⟨a, C, dx, fs, rfl, h, c, n, l, q⟩
theorem w_make (h : t σ H fun vs H1 => MakeR C sp vs H1 Q E) : tMake C sp [] E t σ H Q := by
  have e : (fun vs H1 => MakeR C sp vs H1 Q E) = fun vs H1 => MakeR C sp (vs ++ []) H1 Q E := by funext vs H1; rw [List.append_nil]
  rw [e] at h
  exact h
theorem w_meth (h : ta σ H fun x H1 => MethR C m sp E t σ x H1 Q) : tMeth C m sp [] E ta t σ H Q := by
  have e : (fun x H1 => MethR C m sp E t σ x H1 Q) = fun x H1 => ∃ a dx fs, x = .ref a ∧ H1 a = some (.ins C dx fs) ∧ fs.lookup m = none ∧ t σ H1 fun vs H2 => sp (x :: (vs ++ [])) H2 Q E := by
    funext x H1; unfold MethR; simp only [List.append_nil]
  rw [e] at h
  exact h
theorem w_methGo (h : H a = some (.ins C dx fs)) (l : fs.lookup m = none) (q : t σ H fun vs H2 => sp (.ref a :: vs) H2 Q E) : MethR C m sp E t σ (.ref a) H Q := ⟨a, dx, fs, rfl, h, l, q⟩
theorem w_methW {E : St → XK} (h : ta σ H fun x H1 => MethR C m sp (E σ) t σ x H1 Q) : tMethW C m sp E ta t σ H Q := h
def XfR (a : Addr) (cls : Value) (d : Option Addr) (C : Addr) (f : Str) (x : V) (H1 : Hp) (Q : VK) : Prop := x = .ref a ∧ cls = .ref C ∧ ∃ (dd : Addr) (fs : List (Str × V)) (v : V), d = some dd ∧ H1 dd = some (.xd fs) ∧ fs.lookup f = some v ∧ Q v H1
theorem w_xf {cls : Value} {d : Option Addr} (h : ta σ H fun x H1 => XfR a cls d C f x H1 Q) : tXf a cls d C f ta σ H Q := h
theorem w_xfGo {d : Addr} (h : H d = some (.xd fs)) (l : fs.lookup f = some v) (q : Q v H) : XfR a (.ref C) (some d) C f (.ref a) H Q := ⟨rfl, rfl, d, fs, v, rfl, h, l, q⟩
theorem lk_no {f g : Str} {v : V} (h : ¬ g = f) : List.lookup g [(f, v)] = none := by
  have q : (g == f) = false := by simpa using h
  simp [List.lookup, q]
theorem lk_one {f : Str} {v : V} : List.lookup f [(f, v)] = some v := by simp [List.lookup]
end
/-! ### isinstance of plain values -/
section
variable {σ : St} {H : Hp} {Q : VK} {K : PySem.W.Frag}
def kitL (a : String) : List String → Option Bool
  | [] => some false
  | b :: r => match kitB a b with
    | some true => some true
    | some false => kitL a r
    | none => none
theorem kitL_ok {a : String} : ∀ {bs : List String} {r : Bool}, kitL a bs = some r → PySem.W.kitAny K (.type a) (bs.map Value.type) = some r
  | [], r, h => h
  | b :: bs, r, h => by
    unfold kitL at h
    cases e : kitB a b with
    | none => rw [e] at h; cases h
    | some z =>
      rw [e] at h
      cases z with
      | true => exact kitAny_cons (kit_ty e) (fun z => nomatch z) (fun _ => (Option.some.inj h).symm)
      | false => exact kitAny_cons (kit_ty e) (fun _ => kitL_ok h) (fun z => nomatch z)
theorem clsTys : ∀ bs : List String, Paired ClsV (bs.map V.ty) (bs.map Value.type)
  | [] => .nil
  | b :: r => .cons (.ty b) (clsTys r)
theorem w_isi {x : V} {a b : String} {r : Bool} (ty : TyX K H x (.type a)) (h : kitB a b = some r) (q : Q (.bl r) H) : rIsi K [x, .ty b] H Q := ⟨x, .ty b, .type a, .type b, r, rfl, .ty b, ty, kit_ty h, q⟩
theorem w_isB {a b : Bool} (q : Q (.bl (decide (a = b))) H) : rIsB (.bl a) (.bl b) H Q := ⟨a, b, rfl, rfl, q⟩
theorem w_isiT {x : V} {tp : Addr} {a : String} {r : Bool} {cs : List V} (bs : List String) (hT : H tp = some (.tup cs)) (hc : cs = bs.map V.ty) (ty : TyX K H x (.type a)) (h : kitL a bs = some r) (q : Q (.bl r) H) : rIsiT K [x, .ref tp] H Q := ⟨x, tp, bs.map V.ty, .type a, bs.map Value.type, r, rfl, hc ▸ hT, clsTys bs, ty, kitL_ok h, q⟩
end
/-! ### loops and comprehensions, by what they walk -/
section
variable {σ : St} {H : Hp} {Q : VK} {D : Ends} {g : TG} {tt : TT} {te : TE} {tb : TS} {vs : List Nat} {wi : TI} {ta : TA} {K : PySem.W.Frag} {R : It → Hp → Prop}
def LcIt (g : TG) (tt : TT) (te : TE) (vs : List Nat) (σ : St) (Q : VK) (J : It) (H1 : Hp) : Prop := ∀ D, H1 D = none → ∃ W : Nat → Nat → Hp → Prop, (∃ m, W 0 m (upd H1 D (.lst []))) ∧ ∀ i m H, W i m H →
  (J.stop i H ∧ Q (.ref D) H) ∨ (J.go i H ∧ ∃ Nx : Hp → Prop, (∀ H', Nx H' → ∃ m', m' < m ∧ W (i + 1) m' H') ∧ ∀ x H', J.yld i H x H' → g x (wipe σ vs) H' fun σ2 H2 => wipe σ2 vs = wipe σ vs ∧ tt σ2 H2 fun b H3 =>
    if b = true then te σ2 H3 fun y H4 => ∃ acc, H4 D = some (.lst acc) ∧ acc.length < sizeLine ∧ Nx (upd H4 D (.lst (acc ++ [y]))) else Nx H3)
/-- one turn of a comprehension: x is the item, D the list that is made -/
def LcTurn (g : TG) (tt : TT) (te : TE) (vs : List Nat) (σ : St) (D : Addr) (Nx : Hp → Prop) (x : V) (H : Hp) : Prop := g x (wipe σ vs) H fun σ2 H2 => wipe σ2 vs = wipe σ vs ∧ tt σ2 H2 fun b H3 =>
  if b = true then te σ2 H3 fun y H4 => ∃ acc, H4 D = some (.lst acc) ∧ acc.length < sizeLine ∧ Nx (upd H4 D (.lst (acc ++ [y]))) else Nx H3
def ForIt (g : TG) (tb : TS) (D : Ends) (σ : St) (J : It) (H1 : Hp) : Prop := ∃ W : Nat → Nat → St → Hp → Prop, (∃ m, W 0 m σ H1) ∧ ∀ i m σ H, W i m σ H →
  (J.stop i H ∧ D.nx σ H) ∨ (J.go i H ∧ ∃ N : St → Hp → Prop, (∀ σ' H', N σ' H' → ∃ m', m' < m ∧ W (i + 1) m' σ' H') ∧ ∀ x H', J.yld i H x H' → g x σ H' fun σ2 H2 => tb { D with nx := N, ct := N, bk := D.nx } σ2 H2)
def Rng1 (vs : List V) (R : It → Hp → Prop) (H1 : Hp) : Prop := ∃ j : Int, vs = [.int j] ∧ -(2 ^ 62) ≤ j ∧ j < 2 ^ 62 ∧ R (Itr 0 j.toNat) H1
def ListI (K : PySem.W.Frag) (x : V) (R : It → Hp → Prop) (H1 : Hp) : Prop := ∃ a, x = .ref a ∧ (∃ xs, SqL K H1 a xs) ∧ R (Itl K a) H1
def TupI (K : PySem.W.Frag) (x : V) (R : It → Hp → Prop) (H1 : Hp) : Prop := ∃ a, x = .ref a ∧ (∃ xs, SqT K H1 a xs) ∧ R (Itt K a) H1
def ZipI (K : PySem.W.Frag) (vs : List V) (R : It → Hp → Prop) (H1 : Hp) : Prop := ∃ a b xs ys, vs = [.ref a, .ref b] ∧ ((SqL K H1 a xs ∧ SqL K H1 b ys ∧ R (Itz K a b) H1) ∨ (SqT K H1 a xs ∧ SqT K H1 b ys ∧ R (ItzT K a b) H1))
theorem w_lc (h : wi σ H fun J H1 => LcIt g tt te vs σ Q J H1) : tLc wi g tt te vs σ H Q := h
theorem w_for (h : wi σ H fun J H1 => ForIt g tb D σ J H1) : tFor wi g tb D σ H := h
theorem w_rng1 (h : ta σ H fun vs H1 => Rng1 vs R H1) : iRng1 ta σ H R := h
theorem w_listI (h : te σ H fun x H1 => ListI K x R H1) : iList K te σ H R := h
theorem w_tupI (h : te σ H fun x H1 => TupI K x R H1) : iTup K te σ H R := h
theorem w_zipI (h : ta σ H fun vs H1 => ZipI K vs R H1) : iZipA K ta σ H R := h
theorem w_yes {R : Bool → Hp → Prop} (h : R true H) : tYes σ H R := h
theorem w_rngGo {m : Nat} (hm : m < 1000000) (h : R (Itr 0 m) H) : Rng1 [.int (m : Nat)] R H := ⟨m, rfl, by omega, by omega, by rw [Int.toNat_natCast]; exact h⟩
theorem w_rngGoI {j : Int} (hm : j < 1000000) (h0 : 0 ≤ j) (h : R (Itr 0 j.toNat) H) : Rng1 [.int j] R H := ⟨j, rfl, by omega, by omega, h⟩
theorem w_listGo {a : Addr} {xs : List V} (hx : H a = some (.lst xs)) (h : R (Itl K a) H) : ListI K (.ref a) R H := ⟨a, rfl, ⟨xs, SqL.of hx⟩, h⟩
theorem w_tupGo {a : Addr} {xs : List V} (hx : H a = some (.tup xs)) (h : R (Itt K a) H) : TupI K (.ref a) R H := ⟨a, rfl, ⟨xs, SqT.of hx⟩, h⟩
theorem w_zipGo {a b : Addr} {xs ys : List V} (hx : H a = some (.lst xs)) (hy : H b = some (.lst ys)) (h : R (Itz K a b) H) : ZipI K [.ref a, .ref b] R H := ⟨a, b, xs, ys, rfl, .inl ⟨SqL.of hx, SqL.of hy, h⟩⟩
theorem w_zipGoT {a b : Addr} {xs ys : List V} (hx : H a = some (.tup xs)) (hy : H b = some (.tup ys)) (h : R (ItzT K a b) H) : ZipI K [.ref a, .ref b] R H := ⟨a, b, xs, ys, rfl, .inr ⟨SqT.of hx, SqT.of hy, h⟩⟩
theorem w_lcR {m : Nat} (Pv : Addr → Nat → Hp → Prop) (h0 : ∀ D, H D = none → Pv D 0 (upd H D (.lst []))) (hs : ∀ D i H1, H D = none → i < m → Pv D i H1 → LcTurn g tt te vs σ D (Pv D (i + 1)) (.int (i : Nat)) H1) (hd : ∀ D H1, H D = none → Pv D m H1 → Q (.ref D) H1) : LcIt g tt te vs σ Q (Itr 0 m) H :=
  fun D hD => lc_range (lo := 0) (n := m) (Pv D) (h0 D hD) (fun i H1 hi p => by
    have e : (0 : Int) + (i : Nat) = (i : Nat) := Int.zero_add _
    rw [e]; exact hs D i H1 hD hi p) (fun H1 p => hd D H1 hD p)
theorem w_lcT {a : Addr} {xs : List V} (Pv : Addr → Nat → Hp → Prop) (h0 : ∀ D, H D = none → Pv D 0 (upd H D (.lst []))) (hl : ∀ D i H1, H D = none → i ≤ xs.length → Pv D i H1 → H1 a = some (.tup xs)) (hs : ∀ D i x H1, H D = none → xs[i]? = some x → Pv D i H1 → LcTurn g tt te vs σ D (Pv D (i + 1)) x H1) (hd : ∀ D H1, H D = none → Pv D xs.length H1 → Q (.ref D) H1) : LcIt g tt te vs σ Q (Itt K a) H :=
  fun D hD => lc_tup (K := K) (a := a) (xs := xs) (Pv D) (h0 D hD) (fun i H1 hi p => SqT.of (hl D i H1 hD hi p)) (fun i x H1 hx p => hs D i x H1 hD hx p) (fun H1 p => hd D H1 hD p)
theorem w_lcZ {a b : Addr} {xs ys : List V} (hl : xs.length = ys.length) (Pv : Addr → Nat → Hp → Prop) (h0 : ∀ D, H D = none → Pv D 0 (upd H D (.lst []))) (hq : ∀ D i H1, H D = none → Pv D i H1 → H1 a = some (.lst xs) ∧ H1 b = some (.lst ys)) (hs : ∀ D i x y T H1, H D = none → xs[i]? = some x → ys[i]? = some y → Pv D i H1 → H1 T = none → LcTurn g tt te vs σ D (Pv D (i + 1)) (.ref T) (upd H1 T (.tup [x, y]))) (hd : ∀ D H1, H D = none → Pv D xs.length H1 → Q (.ref D) H1) : LcIt g tt te vs σ Q (Itz K a b) H := fun D hD => by
  refine ⟨fun i m H => m = xs.length - i ∧ i ≤ xs.length ∧ Pv D i H, ⟨xs.length, rfl, Nat.zero_le _, h0 D hD⟩, ?_⟩
  rintro i m H ⟨rfl, hi, p⟩
  have qx := SqL.of (K := K) (hq D i H hD p).1
  have qy := SqL.of (K := K) (hq D i H hD p).2
  rcases Nat.lt_or_ge i xs.length with hlt | hge
  · have hx := List.getElem?_eq_getElem hlt
    have hy := List.getElem?_eq_getElem (show i < ys.length by omega)
    refine .inr ⟨⟨xs, ys, _, _, qx, qy, hx, hy⟩, Pv D (i + 1), fun H' p' => ⟨xs.length - (i + 1), by omega, rfl, hlt, p'⟩, ?_⟩
    rintro v H' ⟨T, x', y', rfl, hT, rfl, f1, f2⟩
    exact hs D i x' y' T H hD (f1 xs qx) (f2 ys qy) p hT
  · obtain rfl : i = xs.length := by omega
    exact .inl ⟨⟨xs, ys, qx, qy, Or.inl (Nat.le_refl _)⟩, hd D H hD p⟩
theorem w_lcZT {a b : Addr} {xs ys : List V} (hl : xs.length = ys.length) (Pv : Addr → Nat → Hp → Prop) (h0 : ∀ D, H D = none → Pv D 0 (upd H D (.lst []))) (hq : ∀ D i H1, H D = none → Pv D i H1 → H1 a = some (.tup xs) ∧ H1 b = some (.tup ys)) (hs : ∀ D i x y T H1, H D = none → xs[i]? = some x → ys[i]? = some y → Pv D i H1 → H1 T = none → LcTurn g tt te vs σ D (Pv D (i + 1)) (.ref T) (upd H1 T (.tup [x, y]))) (hd : ∀ D H1, H D = none → Pv D xs.length H1 → Q (.ref D) H1) : LcIt g tt te vs σ Q (ItzT K a b) H := fun D hD => by
  refine ⟨fun i m H => m = xs.length - i ∧ i ≤ xs.length ∧ Pv D i H, ⟨xs.length, rfl, Nat.zero_le _, h0 D hD⟩, ?_⟩
  rintro i m H ⟨rfl, hi, p⟩
  have qx := SqT.of (K := K) (hq D i H hD p).1
  have qy := SqT.of (K := K) (hq D i H hD p).2
  rcases Nat.lt_or_ge i xs.length with hlt | hge
  · have hx := List.getElem?_eq_getElem hlt
    have hy := List.getElem?_eq_getElem (show i < ys.length by omega)
    refine .inr ⟨⟨xs, ys, _, _, qx, qy, hx, hy⟩, Pv D (i + 1), fun H' p' => ⟨xs.length - (i + 1), by omega, rfl, hlt, p'⟩, ?_⟩
    rintro v H' ⟨T, x', y', rfl, hT, rfl, f1, f2⟩
    exact hs D i x' y' T H hD (f1 xs qx) (f2 ys qy) p hT
  · obtain rfl : i = xs.length := by omega
    exact .inl ⟨⟨xs, ys, qx, qy, Or.inl (Nat.le_refl _)⟩, hd D H hD p⟩
theorem w_gtup {k : Nat} {gs : TGs} {T : Addr} {xs : List V} {R : St → Hp → Prop} (h : H T = some (.tup xs)) (hl : xs.length = k) (q : gs xs σ H R) : gTup K k gs (.ref T) σ H R := ⟨T, xs, rfl, SqT.of h, hl, q⟩
theorem w_gcons {g : TG} {gs : TGs} {x : V} {r : List V} {R : St → Hp → Prop} (h : g x σ H fun σ' H' => gs r σ' H' R) : gCons g gs (x :: r) σ H R := ⟨x, r, rfl, h⟩
theorem w_gnil {R : St → Hp → Prop} (h : R σ H) : gNil [] σ H R := ⟨rfl, h⟩
theorem w_forR {m : Nat} (Pv : Nat → St → Hp → Prop) (h0 : Pv 0 σ H) (hs : ∀ i σ H, i < m → Pv i σ H → g (.int (i : Nat)) σ H fun σ2 H2 => tb { D with nx := Pv (i + 1), ct := Pv (i + 1), bk := D.nx } σ2 H2) (hd : ∀ σ H, Pv m σ H → D.nx σ H) : ForIt g tb D σ (Itr 0 m) H :=
  for_range (lo := 0) (n := m) Pv h0 (fun i σ H1 hi p => by
    have e : (0 : Int) + (i : Nat) = (i : Nat) := Int.zero_add _
    rw [e]; exact hs i σ H1 hi p) hd
theorem w_forL {a : Addr} {xs : List V} (Pv : Nat → St → Hp → Prop) (h0 : Pv 0 σ H) (hl : ∀ i σ H, i ≤ xs.length → Pv i σ H → H a = some (.lst xs)) (hs : ∀ i x σ H, xs[i]? = some x → Pv i σ H → g x σ H fun σ2 H2 => tb { D with nx := Pv (i + 1), ct := Pv (i + 1), bk := D.nx } σ2 H2) (hd : ∀ σ H, Pv xs.length σ H → D.nx σ H) : ForIt g tb D σ (Itl K a) H :=
  for_list (K := K) (a := a) (xs := xs) Pv h0 (fun i σ H1 hi p => SqL.of (hl i σ H1 hi p)) hs hd
theorem w_turn {D : Addr} {Nx : Hp → Prop} {x : V} (h : g x (wipe σ vs) H fun σ2 H2 => wipe σ2 vs = wipe σ vs ∧ tt σ2 H2 fun b H3 => if b = true then te σ2 H3 fun y H4 => ∃ acc, H4 D = some (.lst acc) ∧ acc.length < sizeLine ∧ Nx (upd H4 D (.lst (acc ++ [y]))) else Nx H3) : LcTurn g tt te vs σ D Nx x H := h
end
/-! ### o[a:c] = ys, both lists tracked -/
def SlSet (o x y v : V) (H : Hp) (R : Hp → Prop) : Prop := ∃ (l b : Addr) (xs ys : List V) (i j : Int), o = .ref l ∧ v = .ref b ∧ x = .int i ∧ y = .int j ∧ H l = some (.lst xs) ∧ H b = some (.lst ys) ∧ l ≠ b ∧ 0 ≤ i ∧ i ≤ j ∧ j ≤ xs.length ∧ xs.length + ys.length ≤ sizeLine ∧ R (upd H l (.lst (xs.take i.toNat ++ ys ++ xs.drop j.toNat)))
def gSliceSet (to tl th : TE) : TG := fun v σ H Q => to σ H fun o H1 => tl σ H1 fun x H2 => th σ H2 fun y H3 => SlSet o x y v H3 fun H4 => Q σ H4
theorem pg_slice {X : Cx} {o lo hi : Expr} {to tl th : TE} {p2 pos : Pos} (ho : PE X o to) (hl : PE X lo tl) (hu : PE X hi th) : PG X (.Subscript o (.Slice (some lo) (some hi) none p2) pos) (gSliceSet to tl th) := by
  refine ⟨fun pins s σ H v u Q I r h => ?_⟩
  rw [arm_assign_Subscript]
  refine wpAny_bind (wpAny_holding (thn (ho.run pins s σ H _ I h) ?_))
  rintro ov s1 ⟨x, H1, I1, r1, q1⟩
  refine wpAny_bind (wpAny_holding (wpAny_Slice (thn (hl.run pins s1 σ H1 _ I1 q1) ?_)))
  rintro vl s2 ⟨y, H2, I2, r2, q2⟩
  refine thn (hu.run pins s2 σ H2 _ I2 q2) ?_
  rintro vu s3 ⟨z, H3, I3, r3, l, b, xs, ys, i, j, rfl, rfl, rfl, rfl, e1, e2, hne, i0, ij, jx, hz, q⟩
  rw [evalPart_none]
  refine wpAny_pure (wpAny_bind (wpAny_standAt (wpAny_bind (wpAny_holding ?_))))
  cases r1
  cases r
  have I4 := I3.kept (h' := s3.heap.push { cls := .type "slice", data := .fields #[vl, vu, .none] }) (t' := s3.toks) fun b ob q => Heap.get?_push_of_some _ q
  exact set_slice I4 e1 e2 hne (Heap.IsSliceOf.new ..) r2 r3 i0 ij jx hz fun s' J => wpAny_release ⟨σ, _, J, q⟩
theorem w_gsl {σ : St} {H : Hp} {to tl th : TE} {v : V} {R : St → Hp → Prop} (h : to σ H fun o H1 => tl σ H1 fun x H2 => th σ H2 fun y H3 => SlSet o x y v H3 fun H4 => R σ H4) : gSliceSet to tl th v σ H R := h

local macro_rules | `(tactic| left) => `(tactic| (repeat (first | with_reducible refine w_seq ?_ | with_reducible refine w_next ?_ | with_reducible refine w_asg ?_ | with_reducible refine w_drop ?_ | with_reducible refine w_ret ?_ | with_reducible refine w_if ?_ | with_reducible refine w_name ?_ | with_reducible refine w_sub ?_ | with_reducible refine w_c ?_ | with_reducible refine w_op ?_ | with_reducible refine w_un ?_ | with_reducible refine w_U ?_ | with_reducible refine w_I0 ?_ | with_reducible refine w_test ?_ | with_reducible refine w_B ?_ | with_reducible refine w_bl ?_ | with_reducible refine w_not ?_ | with_reducible refine w_and ?_ | with_reducible refine w_or ?_ | with_reducible refine w_ifE ?_ | with_reducible refine w_andV ?_ | with_reducible refine w_orV ?_ | with_reducible refine w_notV ?_ | with_reducible refine w_chain ?_ | with_reducible refine w_nil ?_ | with_reducible refine w_cons ?_ | with_reducible refine w_lst ?_ | with_reducible refine w_tup ?_ | with_reducible refine w_cb ?_ | with_reducible refine w_bm ?_ | with_reducible refine w_call ?_ | with_reducible refine w_int1 ?_ | with_reducible refine w_max ?_ | with_reducible refine w_min ?_ | with_reducible refine w_lc ?_ | with_reducible refine w_for ?_ | with_reducible refine w_rng1 ?_ | with_reducible refine w_listI ?_ | with_reducible refine w_tupI ?_ | with_reducible refine w_zipI ?_ | with_reducible refine w_yes ?_ | with_reducible refine w_turn ?_ | with_reducible refine iteT ?_ | with_reducible refine iteF ?_ | with_reducible refine w_gcons ?_ | with_reducible refine w_gnil ?_ | with_reducible refine w_fld ?_ | with_reducible refine w_sfld ?_ | with_reducible refine w_make ?_ | with_reducible refine w_meth ?_ | with_reducible refine w_gsl ?_ | with_reducible refine w_err ?_ | with_reducible refine w_sl ?_ | with_reducible refine w_part ?_ | with_reducible refine w_nopart ?_ | with_reducible refine w_partGo ?_ | with_reducible refine w_methW ?_ | with_reducible refine w_xf ?_ | with_reducible refine w_isB ?_ | with_reducible refine w_iteSame ?_ | with_reducible refine w_iteNSame ?_ | with_reducible refine w_iteNT ?_ | with_reducible refine w_iteNF ?_ | ((with_reducible apply w_var); (focus rfl)) | ((with_reducible refine w_eq ?_ ?_); (focus rfl)) | ((with_reducible refine w_ne ?_ ?_); (focus rfl)) | ((with_reducible apply w_ixL); (focus ((repeat (first | with_reducible exact upd_same | (with_reducible refine hg_new (by assumption) ?_) | (with_reducible refine hg_ne (by first | assumption | exact Ne.symm (by assumption) | exact ne_of_none (by assumption) (by assumption) | exact Ne.symm (ne_of_none (by assumption) (by assumption))) ?_))); first | done | assumption | exact upd_same)); (focus rfl)) | ((with_reducible apply w_ixT); (focus ((repeat (first | with_reducible exact upd_same | (with_reducible refine hg_new (by assumption) ?_) | (with_reducible refine hg_ne (by first | assumption | exact Ne.symm (by assumption) | exact ne_of_none (by assumption) (by assumption) | exact Ne.symm (ne_of_none (by assumption) (by assumption))) ?_))); first | done | assumption | exact upd_same)); (focus rfl)) | ((with_reducible apply w_setL); (focus ((repeat (first | with_reducible exact upd_same | (with_reducible refine hg_new (by assumption) ?_) | (with_reducible refine hg_ne (by first | assumption | exact Ne.symm (by assumption) | exact ne_of_none (by assumption) (by assumption) | exact Ne.symm (ne_of_none (by assumption) (by assumption))) ?_))); first | done | assumption | exact upd_same)); (focus rfl)) | ((with_reducible apply w_len); (focus ((repeat (first | with_reducible exact upd_same | (with_reducible refine hg_new (by assumption) ?_) | (with_reducible refine hg_ne (by first | assumption | exact Ne.symm (by assumption) | exact ne_of_none (by assumption) (by assumption) | exact Ne.symm (ne_of_none (by assumption) (by assumption))) ?_))); first | done | assumption | exact upd_same))) | ((with_reducible apply w_lenT); (focus ((repeat (first | with_reducible exact upd_same | (with_reducible refine hg_new (by assumption) ?_) | (with_reducible refine hg_ne (by first | assumption | exact Ne.symm (by assumption) | exact ne_of_none (by assumption) (by assumption) | exact Ne.symm (ne_of_none (by assumption) (by assumption))) ?_))); first | done | assumption | exact upd_same))) | ((with_reducible apply w_list); (focus ((repeat (first | with_reducible exact upd_same | (with_reducible refine hg_new (by assumption) ?_) | (with_reducible refine hg_ne (by first | assumption | exact Ne.symm (by assumption) | exact ne_of_none (by assumption) (by assumption) | exact Ne.symm (ne_of_none (by assumption) (by assumption))) ?_))); first | done | assumption | exact upd_same))) | ((with_reducible apply w_fldGo); (focus ((repeat (first | with_reducible exact upd_same | (with_reducible refine hg_new (by assumption) ?_) | (with_reducible refine hg_ne (by first | assumption | exact Ne.symm (by assumption) | exact ne_of_none (by assumption) (by assumption) | exact Ne.symm (ne_of_none (by assumption) (by assumption))) ?_))); first | done | assumption | exact upd_same)); (focus assumption); (focus assumption); (focus (first | exact lk_one | (focus (simp [List.lookup]; done)) | rfl))) | ((with_reducible apply w_sfldGo); (focus ((repeat (first | with_reducible exact upd_same | (with_reducible refine hg_new (by assumption) ?_) | (with_reducible refine hg_ne (by first | assumption | exact Ne.symm (by assumption) | exact ne_of_none (by assumption) (by assumption) | exact Ne.symm (ne_of_none (by assumption) (by assumption))) ?_))); first | done | assumption | exact upd_same)); (focus assumption); (focus assumption); (focus decide)) | ((with_reducible apply w_methGo); (focus ((repeat (first | with_reducible exact upd_same | (with_reducible refine hg_new (by assumption) ?_) | (with_reducible refine hg_ne (by first | assumption | exact Ne.symm (by assumption) | exact ne_of_none (by assumption) (by assumption) | exact Ne.symm (ne_of_none (by assumption) (by assumption))) ?_))); first | done | assumption | exact upd_same)); (focus first | exact lk_no (by decide +kernel) | rfl | (simp [List.lookup]; done))) | ((with_reducible apply w_xfGo); (focus ((repeat (first | with_reducible exact upd_same | (with_reducible refine hg_new (by assumption) ?_) | (with_reducible refine hg_ne (by first | assumption | exact Ne.symm (by assumption) | exact ne_of_none (by assumption) (by assumption) | exact Ne.symm (ne_of_none (by assumption) (by assumption))) ?_))); first | done | assumption | exact upd_same)); (focus (first | exact lk_one | (focus (simp [List.lookup]; done)) | rfl))) | ((with_reducible apply w_isi (r := true)); (focus (first | exact .base (.int _) | exact .base .non | exact .base (.bl _) | exact .base (.str _) | exact .base (.lst (by ((repeat (first | with_reducible exact upd_same | (with_reducible refine hg_new (by assumption) ?_) | (with_reducible refine hg_ne (by first | assumption | exact Ne.symm (by assumption) | exact ne_of_none (by assumption) (by assumption) | exact Ne.symm (ne_of_none (by assumption) (by assumption))) ?_))); first | done | assumption | exact upd_same))) | exact .base (.tup (by ((repeat (first | with_reducible exact upd_same | (with_reducible refine hg_new (by assumption) ?_) | (with_reducible refine hg_ne (by first | assumption | exact Ne.symm (by assumption) | exact ne_of_none (by assumption) (by assumption) | exact Ne.symm (ne_of_none (by assumption) (by assumption))) ?_))); first | done | assumption | exact upd_same))))); (focus decide +kernel)) | ((with_reducible apply w_isi (r := false)); (focus (first | exact .base (.int _) | exact .base .non | exact .base (.bl _) | exact .base (.str _) | exact .base (.lst (by ((repeat (first | with_reducible exact upd_same | (with_reducible refine hg_new (by assumption) ?_) | (with_reducible refine hg_ne (by first | assumption | exact Ne.symm (by assumption) | exact ne_of_none (by assumption) (by assumption) | exact Ne.symm (ne_of_none (by assumption) (by assumption))) ?_))); first | done | assumption | exact upd_same))) | exact .base (.tup (by ((repeat (first | with_reducible exact upd_same | (with_reducible refine hg_new (by assumption) ?_) | (with_reducible refine hg_ne (by first | assumption | exact Ne.symm (by assumption) | exact ne_of_none (by assumption) (by assumption) | exact Ne.symm (ne_of_none (by assumption) (by assumption))) ?_))); first | done | assumption | exact upd_same))))); (focus decide +kernel)) | ((with_reducible apply w_slL); (focus ((repeat (first | with_reducible exact upd_same | (with_reducible refine hg_new (by assumption) ?_) | (with_reducible refine hg_ne (by first | assumption | exact Ne.symm (by assumption) | exact ne_of_none (by assumption) (by assumption) | exact Ne.symm (ne_of_none (by assumption) (by assumption))) ?_))); first | done | assumption | exact upd_same))) | ((with_reducible apply w_gtup); (focus ((repeat (first | with_reducible exact upd_same | (with_reducible refine hg_new (by assumption) ?_) | (with_reducible refine hg_ne (by first | assumption | exact Ne.symm (by assumption) | exact ne_of_none (by assumption) (by assumption) | exact Ne.symm (ne_of_none (by assumption) (by assumption))) ?_))); first | done | assumption | exact upd_same)); (focus rfl)) | ((with_reducible apply w_tyL); (focus ((repeat (first | with_reducible exact upd_same | (with_reducible refine hg_new (by assumption) ?_) | (with_reducible refine hg_ne (by first | assumption | exact Ne.symm (by assumption) | exact ne_of_none (by assumption) (by assumption) | exact Ne.symm (ne_of_none (by assumption) (by assumption))) ?_))); first | done | assumption | exact upd_same))) | ((with_reducible apply w_pop0); (focus ((repeat (first | with_reducible exact upd_same | (with_reducible refine hg_new (by assumption) ?_) | (with_reducible refine hg_ne (by first | assumption | exact Ne.symm (by assumption) | exact ne_of_none (by assumption) (by assumption) | exact Ne.symm (ne_of_none (by assumption) (by assumption))) ?_))); first | done | assumption | exact upd_same))) | ((with_reducible apply w_I); (focus first | (show CMul _ _; first | exact .inl ⟨by omega, by omega⟩ | exact .inr ⟨by omega, by omega⟩) | (show CPow _ _; exact ⟨by omega, by omega, by omega⟩) | (show CDivN _ _; exact ⟨by omega, by omega⟩) | omega)))))
local macro_rules | `(tactic| right) => `(tactic| (repeat (first | with_reducible refine w_seq ?_ | with_reducible refine w_next ?_ | with_reducible refine w_asg ?_ | with_reducible refine w_drop ?_ | with_reducible refine w_ret ?_ | with_reducible refine w_if ?_ | with_reducible refine w_name ?_ | with_reducible refine w_sub ?_ | with_reducible refine w_c ?_ | with_reducible refine w_op ?_ | with_reducible refine w_un ?_ | with_reducible refine w_U ?_ | with_reducible refine w_I0 ?_ | with_reducible refine w_test ?_ | with_reducible refine w_B ?_ | with_reducible refine w_bl ?_ | with_reducible refine w_not ?_ | with_reducible refine w_and ?_ | with_reducible refine w_or ?_ | with_reducible refine w_ifE ?_ | with_reducible refine w_andV ?_ | with_reducible refine w_orV ?_ | with_reducible refine w_notV ?_ | with_reducible refine w_chain ?_ | with_reducible refine w_nil ?_ | with_reducible refine w_cons ?_ | with_reducible refine w_lst ?_ | with_reducible refine w_tup ?_ | with_reducible refine w_cb ?_ | with_reducible refine w_bm ?_ | with_reducible refine w_call ?_ | with_reducible refine w_int1 ?_ | with_reducible refine w_max ?_ | with_reducible refine w_min ?_ | with_reducible refine w_lc ?_ | with_reducible refine w_for ?_ | with_reducible refine w_rng1 ?_ | with_reducible refine w_listI ?_ | with_reducible refine w_tupI ?_ | with_reducible refine w_zipI ?_ | with_reducible refine w_yes ?_ | with_reducible refine w_turn ?_ | with_reducible refine iteT ?_ | with_reducible refine iteF ?_ | with_reducible refine w_gcons ?_ | with_reducible refine w_gnil ?_ | with_reducible refine w_fld ?_ | with_reducible refine w_sfld ?_ | with_reducible refine w_make ?_ | with_reducible refine w_meth ?_ | with_reducible refine w_gsl ?_ | with_reducible refine w_err ?_ | with_reducible refine w_sl ?_ | with_reducible refine w_part ?_ | with_reducible refine w_nopart ?_ | with_reducible refine w_partGo ?_ | with_reducible refine w_methW ?_ | with_reducible refine w_xf ?_ | with_reducible refine w_isB ?_ | with_reducible refine w_iteSame ?_ | with_reducible refine w_iteNSame ?_ | with_reducible refine w_iteNT ?_ | with_reducible refine w_iteNF ?_ | ((with_reducible apply w_var); (focus rfl)) | ((with_reducible refine w_eq ?_ ?_); (focus rfl)) | ((with_reducible refine w_ne ?_ ?_); (focus rfl)) | ((with_reducible apply w_ixL); (focus ((repeat (first | with_reducible exact upd_same | (with_reducible refine hg_new (by assumption) ?_) | (with_reducible refine hg_ne (by first | assumption | exact Ne.symm (by assumption) | exact ne_of_none (by assumption) (by assumption) | exact Ne.symm (ne_of_none (by assumption) (by assumption))) ?_))); first | done | assumption | exact upd_same)); (focus rfl)) | ((with_reducible apply w_ixT); (focus ((repeat (first | with_reducible exact upd_same | (with_reducible refine hg_new (by assumption) ?_) | (with_reducible refine hg_ne (by first | assumption | exact Ne.symm (by assumption) | exact ne_of_none (by assumption) (by assumption) | exact Ne.symm (ne_of_none (by assumption) (by assumption))) ?_))); first | done | assumption | exact upd_same)); (focus rfl)) | ((with_reducible apply w_setL); (focus ((repeat (first | with_reducible exact upd_same | (with_reducible refine hg_new (by assumption) ?_) | (with_reducible refine hg_ne (by first | assumption | exact Ne.symm (by assumption) | exact ne_of_none (by assumption) (by assumption) | exact Ne.symm (ne_of_none (by assumption) (by assumption))) ?_))); first | done | assumption | exact upd_same)); (focus rfl)) | ((with_reducible apply w_len); (focus ((repeat (first | with_reducible exact upd_same | (with_reducible refine hg_new (by assumption) ?_) | (with_reducible refine hg_ne (by first | assumption | exact Ne.symm (by assumption) | exact ne_of_none (by assumption) (by assumption) | exact Ne.symm (ne_of_none (by assumption) (by assumption))) ?_))); first | done | assumption | exact upd_same))) | ((with_reducible apply w_lenT); (focus ((repeat (first | with_reducible exact upd_same | (with_reducible refine hg_new (by assumption) ?_) | (with_reducible refine hg_ne (by first | assumption | exact Ne.symm (by assumption) | exact ne_of_none (by assumption) (by assumption) | exact Ne.symm (ne_of_none (by assumption) (by assumption))) ?_))); first | done | assumption | exact upd_same))) | ((with_reducible apply w_list); (focus ((repeat (first | with_reducible exact upd_same | (with_reducible refine hg_new (by assumption) ?_) | (with_reducible refine hg_ne (by first | assumption | exact Ne.symm (by assumption) | exact ne_of_none (by assumption) (by assumption) | exact Ne.symm (ne_of_none (by assumption) (by assumption))) ?_))); first | done | assumption | exact upd_same))) | ((with_reducible apply w_fldGo); (focus ((repeat (first | with_reducible exact upd_same | (with_reducible refine hg_new (by assumption) ?_) | (with_reducible refine hg_ne (by first | assumption | exact Ne.symm (by assumption) | exact ne_of_none (by assumption) (by assumption) | exact Ne.symm (ne_of_none (by assumption) (by assumption))) ?_))); first | done | assumption | exact upd_same)); (focus assumption); (focus assumption); (focus (first | exact lk_one | (focus (simp [List.lookup]; done)) | rfl))) | ((with_reducible apply w_sfldGo); (focus ((repeat (first | with_reducible exact upd_same | (with_reducible refine hg_new (by assumption) ?_) | (with_reducible refine hg_ne (by first | assumption | exact Ne.symm (by assumption) | exact ne_of_none (by assumption) (by assumption) | exact Ne.symm (ne_of_none (by assumption) (by assumption))) ?_))); first | done | assumption | exact upd_same)); (focus assumption); (focus assumption); (focus decide)) | ((with_reducible apply w_methGo); (focus ((repeat (first | with_reducible exact upd_same | (with_reducible refine hg_new (by assumption) ?_) | (with_reducible refine hg_ne (by first | assumption | exact Ne.symm (by assumption) | exact ne_of_none (by assumption) (by assumption) | exact Ne.symm (ne_of_none (by assumption) (by assumption))) ?_))); first | done | assumption | exact upd_same)); (focus first | exact lk_no (by decide +kernel) | rfl | (simp [List.lookup]; done))) | ((with_reducible apply w_xfGo); (focus ((repeat (first | with_reducible exact upd_same | (with_reducible refine hg_new (by assumption) ?_) | (with_reducible refine hg_ne (by first | assumption | exact Ne.symm (by assumption) | exact ne_of_none (by assumption) (by assumption) | exact Ne.symm (ne_of_none (by assumption) (by assumption))) ?_))); first | done | assumption | exact upd_same)); (focus (first | exact lk_one | (focus (simp [List.lookup]; done)) | rfl))) | ((with_reducible apply w_isi (r := true)); (focus (first | exact .base (.int _) | exact .base .non | exact .base (.bl _) | exact .base (.str _) | exact .base (.lst (by ((repeat (first | with_reducible exact upd_same | (with_reducible refine hg_new (by assumption) ?_) | (with_reducible refine hg_ne (by first | assumption | exact Ne.symm (by assumption) | exact ne_of_none (by assumption) (by assumption) | exact Ne.symm (ne_of_none (by assumption) (by assumption))) ?_))); first | done | assumption | exact upd_same))) | exact .base (.tup (by ((repeat (first | with_reducible exact upd_same | (with_reducible refine hg_new (by assumption) ?_) | (with_reducible refine hg_ne (by first | assumption | exact Ne.symm (by assumption) | exact ne_of_none (by assumption) (by assumption) | exact Ne.symm (ne_of_none (by assumption) (by assumption))) ?_))); first | done | assumption | exact upd_same))))); (focus decide +kernel)) | ((with_reducible apply w_isi (r := false)); (focus (first | exact .base (.int _) | exact .base .non | exact .base (.bl _) | exact .base (.str _) | exact .base (.lst (by ((repeat (first | with_reducible exact upd_same | (with_reducible refine hg_new (by assumption) ?_) | (with_reducible refine hg_ne (by first | assumption | exact Ne.symm (by assumption) | exact ne_of_none (by assumption) (by assumption) | exact Ne.symm (ne_of_none (by assumption) (by assumption))) ?_))); first | done | assumption | exact upd_same))) | exact .base (.tup (by ((repeat (first | with_reducible exact upd_same | (with_reducible refine hg_new (by assumption) ?_) | (with_reducible refine hg_ne (by first | assumption | exact Ne.symm (by assumption) | exact ne_of_none (by assumption) (by assumption) | exact Ne.symm (ne_of_none (by assumption) (by assumption))) ?_))); first | done | assumption | exact upd_same))))); (focus decide +kernel)) | ((with_reducible apply w_slL); (focus ((repeat (first | with_reducible exact upd_same | (with_reducible refine hg_new (by assumption) ?_) | (with_reducible refine hg_ne (by first | assumption | exact Ne.symm (by assumption) | exact ne_of_none (by assumption) (by assumption) | exact Ne.symm (ne_of_none (by assumption) (by assumption))) ?_))); first | done | assumption | exact upd_same))) | ((with_reducible apply w_gtup); (focus ((repeat (first | with_reducible exact upd_same | (with_reducible refine hg_new (by assumption) ?_) | (with_reducible refine hg_ne (by first | assumption | exact Ne.symm (by assumption) | exact ne_of_none (by assumption) (by assumption) | exact Ne.symm (ne_of_none (by assumption) (by assumption))) ?_))); first | done | assumption | exact upd_same)); (focus rfl)) | ((with_reducible apply w_tyL); (focus ((repeat (first | with_reducible exact upd_same | (with_reducible refine hg_new (by assumption) ?_) | (with_reducible refine hg_ne (by first | assumption | exact Ne.symm (by assumption) | exact ne_of_none (by assumption) (by assumption) | exact Ne.symm (ne_of_none (by assumption) (by assumption))) ?_))); first | done | assumption | exact upd_same))) | ((with_reducible apply w_pop0); (focus ((repeat (first | with_reducible exact upd_same | (with_reducible refine hg_new (by assumption) ?_) | (with_reducible refine hg_ne (by first | assumption | exact Ne.symm (by assumption) | exact ne_of_none (by assumption) (by assumption) | exact Ne.symm (ne_of_none (by assumption) (by assumption))) ?_))); first | done | assumption | exact upd_same))) | ((with_reducible apply w_I); (focus first | (show CMul _ _; first | exact .inl ⟨by omega, by omega⟩ | exact .inr ⟨by omega, by omega⟩) | (show CPow _ _; exact ⟨by omega, by omega, by omega⟩) | (show CDivN _ _; exact ⟨by omega, by omega⟩) | omega)) | ((with_reducible refine w_lstGo ?_ ?_); (focus (show _ ≤ sizeLine; decide)); (intro _ _)) | ((with_reducible refine w_tupGo' ?_ ?_); (focus (show _ ≤ sizeLine; decide)); (intro _ _)) | ((with_reducible apply w_isiT ["list", "tuple"] (r := true)); (focus ((repeat (first | with_reducible exact upd_same | (with_reducible refine hg_new (by assumption) ?_) | (with_reducible refine hg_ne (by first | assumption | exact Ne.symm (by assumption) | exact ne_of_none (by assumption) (by assumption) | exact Ne.symm (ne_of_none (by assumption) (by assumption))) ?_))); first | done | assumption | exact upd_same)); (focus rfl); (focus (first | exact .base (.int _) | exact .base .non | exact .base (.bl _) | exact .base (.str _) | exact .base (.lst (by ((repeat (first | with_reducible exact upd_same | (with_reducible refine hg_new (by assumption) ?_) | (with_reducible refine hg_ne (by first | assumption | exact Ne.symm (by assumption) | exact ne_of_none (by assumption) (by assumption) | exact Ne.symm (ne_of_none (by assumption) (by assumption))) ?_))); first | done | assumption | exact upd_same))) | exact .base (.tup (by ((repeat (first | with_reducible exact upd_same | (with_reducible refine hg_new (by assumption) ?_) | (with_reducible refine hg_ne (by first | assumption | exact Ne.symm (by assumption) | exact ne_of_none (by assumption) (by assumption) | exact Ne.symm (ne_of_none (by assumption) (by assumption))) ?_))); first | done | assumption | exact upd_same))))); (focus decide +kernel)) | ((with_reducible apply w_isiT ["list", "tuple"] (r := false)); (focus ((repeat (first | with_reducible exact upd_same | (with_reducible refine hg_new (by assumption) ?_) | (with_reducible refine hg_ne (by first | assumption | exact Ne.symm (by assumption) | exact ne_of_none (by assumption) (by assumption) | exact Ne.symm (ne_of_none (by assumption) (by assumption))) ?_))); first | done | assumption | exact upd_same)); (focus rfl); (focus (first | exact .base (.int _) | exact .base .non | exact .base (.bl _) | exact .base (.str _) | exact .base (.lst (by ((repeat (first | with_reducible exact upd_same | (with_reducible refine hg_new (by assumption) ?_) | (with_reducible refine hg_ne (by first | assumption | exact Ne.symm (by assumption) | exact ne_of_none (by assumption) (by assumption) | exact Ne.symm (ne_of_none (by assumption) (by assumption))) ?_))); first | done | assumption | exact upd_same))) | exact .base (.tup (by ((repeat (first | with_reducible exact upd_same | (with_reducible refine hg_new (by assumption) ?_) | (with_reducible refine hg_ne (by first | assumption | exact Ne.symm (by assumption) | exact ne_of_none (by assumption) (by assumption) | exact Ne.symm (ne_of_none (by assumption) (by assumption))) ?_))); first | done | assumption | exact upd_same))))); (focus decide +kernel)) | ((with_reducible apply w_isiT ["bool", "int", "list", "tuple", "dict"] (r := true)); (focus ((repeat (first | with_reducible exact upd_same | (with_reducible refine hg_new (by assumption) ?_) | (with_reducible refine hg_ne (by first | assumption | exact Ne.symm (by assumption) | exact ne_of_none (by assumption) (by assumption) | exact Ne.symm (ne_of_none (by assumption) (by assumption))) ?_))); first | done | assumption | exact upd_same)); (focus rfl); (focus (first | exact .base (.int _) | exact .base .non | exact .base (.bl _) | exact .base (.str _) | exact .base (.lst (by ((repeat (first | with_reducible exact upd_same | (with_reducible refine hg_new (by assumption) ?_) | (with_reducible refine hg_ne (by first | assumption | exact Ne.symm (by assumption) | exact ne_of_none (by assumption) (by assumption) | exact Ne.symm (ne_of_none (by assumption) (by assumption))) ?_))); first | done | assumption | exact upd_same))) | exact .base (.tup (by ((repeat (first | with_reducible exact upd_same | (with_reducible refine hg_new (by assumption) ?_) | (with_reducible refine hg_ne (by first | assumption | exact Ne.symm (by assumption) | exact ne_of_none (by assumption) (by assumption) | exact Ne.symm (ne_of_none (by assumption) (by assumption))) ?_))); first | done | assumption | exact upd_same))))); (focus decide +kernel)) | ((with_reducible apply w_isiT ["bool", "int", "list", "tuple", "dict"] (r := false)); (focus ((repeat (first | with_reducible exact upd_same | (with_reducible refine hg_new (by assumption) ?_) | (with_reducible refine hg_ne (by first | assumption | exact Ne.symm (by assumption) | exact ne_of_none (by assumption) (by assumption) | exact Ne.symm (ne_of_none (by assumption) (by assumption))) ?_))); first | done | assumption | exact upd_same)); (focus rfl); (focus (first | exact .base (.int _) | exact .base .non | exact .base (.bl _) | exact .base (.str _) | exact .base (.lst (by ((repeat (first | with_reducible exact upd_same | (with_reducible refine hg_new (by assumption) ?_) | (with_reducible refine hg_ne (by first | assumption | exact Ne.symm (by assumption) | exact ne_of_none (by assumption) (by assumption) | exact Ne.symm (ne_of_none (by assumption) (by assumption))) ?_))); first | done | assumption | exact upd_same))) | exact .base (.tup (by ((repeat (first | with_reducible exact upd_same | (with_reducible refine hg_new (by assumption) ?_) | (with_reducible refine hg_ne (by first | assumption | exact Ne.symm (by assumption) | exact ne_of_none (by assumption) (by assumption) | exact Ne.symm (ne_of_none (by assumption) (by assumption))) ?_))); first | done | assumption | exact upd_same))))); (focus decide +kernel)))))
local macro_rules | `(tactic| and_intros) => `(tactic| ((repeat (first | with_reducible exact upd_same | (with_reducible refine hg_new (by assumption) ?_) | (with_reducible refine hg_ne (by first | assumption | exact Ne.symm (by assumption) | exact ne_of_none (by assumption) (by assumption) | exact Ne.symm (ne_of_none (by assumption) (by assumption))) ?_))); first | done | assumption | exact upd_same))
local macro_rules | `(tactic| ac_rfl) => `(tactic| (repeat (first | with_reducible exact Same.refl _ | (with_reducible refine Same.trans ?_ (Same.new (by assumption))))))
structure Txt (K : PySem.W.Frag) (mg : Str → Option Value) : Prop where
  z_int : mg "int" = none
  z_len : mg "len" = none
  z_isinstance : mg "isinstance" = none
  z_bool : mg "bool" = none
  z_list : mg "list" = none
  z_tuple : mg "tuple" = none
  z_dict : mg "dict" = none
  z_range : mg "range" = none
  z_zip : mg "zip" = none
  z_all : mg "all" = none
  z_min : mg "min" = none
  z_max : mg "max" = none
/-! ### the stream of draws -/
/-- at st the stream: a list of what is left, the number in hand, the draws so far, the mix -/
def StrAt (H : Hp) (st ls : Addr) (n : Nat) : Prop := st ≠ ls ∧ ∃ (xs : List Int) (x c m : Int), H st = some (.lst [.ref ls, .int x, .int c, .int m]) ∧ H ls = some (.lst (xs.map V.int)) ∧ 0 ≤ x ∧ 0 ≤ c ∧ c ≤ (n : Int) ∧ 0 ≤ m ∧ m < 2147483647
/-- what is neither at st nor at ls stays -/
def Fr (st ls : Addr) (H H' : Hp) : Prop := ∀ b o, b ≠ st → b ≠ ls → H b = some o → H' b = some o
def spDraw : Sp := fun vs H Q _ => ∃ (st ls : Addr) (n : Nat) (c : Int), vs = [.ref st, .int c] ∧ StrAt H st ls n ∧ n < 1000000 ∧ 0 < c ∧ c < 1073741824 ∧
  ∀ (v : Int) (H' : Hp), 0 ≤ v → v < c → StrAt H' st ls (n + 1) → Fr st ls H H' → Q (.int v) H'
section
variable {P : Program} {w : World} {K : PySem.W.Frag} {mg : Str → Option Value} {base : Heap}
theorem Fr.refl (st ls : Addr) (H : Hp) : Fr st ls H H := fun _ _ _ _ h => h
theorem Fr.trans {st ls : Addr} {H H1 H2 : Hp} (a : Fr st ls H H1) (b : Fr st ls H1 H2) : Fr st ls H H2 := fun c o h1 h2 h => b c o h1 h2 (a c o h1 h2 h)
theorem Fr.st {st ls : Addr} {H : Hp} {o : HO} : Fr st ls H (upd H st o) := fun b u h1 h2 h => by rw [upd_ne h1]; exact h
theorem Fr.ls {st ls : Addr} {H : Hp} {o : HO} : Fr st ls H (upd H ls o) := fun b u h1 h2 h => by rw [upd_ne h2]; exact h
theorem Fr.new {st ls p : Addr} {H : Hp} {o : HO} (h : H p = none) : Fr st ls H (upd H p o) := fun b u h1 h2 hb => by rw [upd_ne (ne_of_none hb h)]; exact hb
theorem ok_draw {f : Addr} {fd : FuncData} (F : Fun K "_law_draw" "_law_draw" s__law_draw f fd) (T : Txt K mg) : FnOk P w K mg base CX0 1 f fd ["_law_stream", "_law_many"] spDraw := by
  refine F.ok sc__law_draw (fun vs H Q E h => ?_) (fun cdv A outer s H vs Q E hr h => ?_)
  · obtain ⟨_, _, _, _, rfl, _⟩ := h
    rfl
  · obtain ⟨st, ls, n, c0', rfl, ⟨hne, xs, x, c, m, h1, h2, x0, c00, c0n, m0, m1⟩, hn, hc, hc2, k⟩ := h
    refine ⟨_, (pss_cons (ps_while PassesOwn.never (pt_up (PW.pt (pw_and (pt_cmpR op_eq (pe_ix (ixL_k (K := K) rfl) (pv 0) pe_int (fun _ _ => rfl)) pe_int (nomark _)) (pw_and1 (pt_cmpR (neD_k (K := K) hr.units rfl) (pe_ix (ixL_k (K := K) rfl) (pv 0) pe_int (fun _ _ => rfl)) (pe_lst pa_nil) (nomark _)))))) (pss_cons (ps_asg (pe_bm PySem.F.plainAttrs_list PySem.F.slot_list_pop PySem.F.type_list_pop mt_popAt (pe_ix (ixL_k (K := K) rfl) (pv 0) pe_int (fun _ _ => rfl)) (pa_cons pe_int pa_nil)) (pg_sub (pv 0) pe_int set_list))
      (pss_one (ps_if (pt_cmpR op_lt (pe_ix (ixL_k (K := K) rfl) (pv 0) pe_int (fun _ _ => rfl)) (pe_op op_pow pe_int pe_int) (nomark _)) (pss_cons (ps_asg (pe_op op_modN (pe_callTy cq_int (by rfl) T.z_int (by decide +kernel) (pa_cons (pe_op op_add (pe_op op_add (pe_op op_mul (pe_ix (ixL_k (K := K) rfl) (pv 0) pe_int (fun _ _ => rfl)) pe_int) (pe_ix (ixL_k (K := K) rfl) (pv 0) pe_int (fun _ _ => rfl))) pe_int) pa_nil)) pe_int) (pg_sub (pv 0) pe_int set_list))
      (pss_one (ps_asg pe_int (pg_sub (pv 0) pe_int set_list)))) pss_nil))))
      (pss_cons (ps_if (pt_cmpR op_gt (pe_ix (ixL_k (K := K) rfl) (pv 0) pe_int (fun _ _ => rfl)) pe_int (nomark _)) (pss_cons (ps_set (i := 2) sc__law_draw.nd rfl (Or.inl rfl) (pe_op op_modN (pe_callTy cq_int (by rfl) T.z_int (by decide +kernel) (pa_cons (pe_ix (ixL_k (K := K) rfl) (pv 0) pe_int (fun _ _ => rfl)) pa_nil)) (pv 1)))
      (pss_cons (ps_asg (pe_op op_fdivN (pe_ix (ixL_k (K := K) rfl) (pv 0) pe_int (fun _ _ => rfl)) (pv 1)) (pg_sub (pv 0) pe_int set_list))
      (pss_one (ps_ret (pv 2))))) pss_nil)
      (pss_cons (ps_asg (pe_op op_add (pe_ix (ixL_k (K := K) rfl) (pv 0) pe_int (fun _ _ => rfl)) pe_int) (pg_sub (pv 0) pe_int set_list))
      (pss_cons (ps_set (i := 3) sc__law_draw.nd rfl (Or.inl rfl) (pe_op op_modN (pe_callTy cq_int (by rfl) T.z_int (by decide +kernel) (pa_cons (pe_op op_pow (pe_op op_add (pe_op op_add (pe_ix (ixL_k (K := K) rfl) (pv 0) pe_int (fun _ _ => rfl)) (pe_op op_mul pe_int (pe_ix (ixL_k (K := K) rfl) (pv 0) pe_int (fun _ _ => rfl)))) pe_int) pe_int) pa_nil)) pe_int))
      (pss_cons (ps_set (i := 4) sc__law_draw.nd rfl (Or.inl rfl) (pe_op op_modN (pe_callTy cq_int (by rfl) T.z_int (by decide +kernel) (pa_cons (pe_op op_pow (pe_op op_add (pe_op op_add (pe_op op_mul (pv 3) pe_int) (pe_op op_mul (pe_op op_mul pe_int (pe_ix (ixL_k (K := K) rfl) (pv 0) pe_int (fun _ _ => rfl))) (pe_ix (ixL_k (K := K) rfl) (pv 0) pe_int (fun _ _ => rfl)))) pe_int) pe_int) pa_nil)) pe_int))
      (pss_one (ps_ret (pe_op op_modN (pe_callTy cq_int (by rfl) T.z_int (by decide +kernel) (pa_cons (pv 4) pa_nil)) (pv 1))))))))), ?_⟩
    refine w_seq (w_while (fun k σ H' => ∃ (xs : List Int) (x c m : Int), k = xs.length ∧ σ = [some (.ref st), some (.int c0'), none, none, none] ∧ H' st = some (.lst [.ref ls, .int x, .int c, .int m]) ∧ H' ls = some (.lst (xs.map V.int)) ∧ 0 ≤ x ∧ 0 ≤ c ∧ c ≤ (n : Int) ∧ 0 ≤ m ∧ m < 2147483647 ∧ Fr st ls H H')
      (fun σ H' => ∃ (xs : List Int) (x c m : Int), σ = [some (.ref st), some (.int c0'), none, none, none] ∧ H' st = some (.lst [.ref ls, .int x, .int c, .int m]) ∧ H' ls = some (.lst (xs.map V.int)) ∧ 0 ≤ x ∧ 0 ≤ c ∧ c ≤ (n : Int) ∧ 0 ≤ m ∧ m < 2147483647 ∧ Fr st ls H H')
      xs.length ⟨xs, x, c, m, rfl, rfl, h1, h2, x0, c00, c0n, m0, m1, Fr.refl _ _ _⟩ ?_ ?_)
    · clear h1 h2 x0 c00 c0n m0 m1 xs x c m
      rintro σ H1 ⟨xs, x, c, m, rfl, h1, h2, x0, c00, c0n, m0, m1, fr⟩
      left
      refine w_ite (fun hx => ?_) (fun hx => ?_)
      · left
        have e1 : x.fmod c0' = x % c0' := Int.fmod_eq_emod_of_nonneg _ (by omega)
        have e2 : x.fdiv c0' = x / c0' := Int.fdiv_eq_ediv_of_nonneg _ (by omega)
        refine k _ _ (by rw [e1]; exact Int.emod_nonneg _ (by omega)) (by rw [e1]; exact Int.emod_lt_of_pos _ hc) ⟨hne, xs, _, c, m, upd_same, hg_ne (Ne.symm hne) h2, ?_, c00, by omega, m0, m1⟩ (fr.trans Fr.st)
        rw [e2]; exact Int.ediv_nonneg x0 (by omega)
      · left
        have hb0 : 0 ≤ (c + 1) * (c + 1) := Int.mul_nonneg (by omega) (by omega)
        have hb1 : (c + 1) * (c + 1) ≤ 1000000 * 1000000 := Int.mul_le_mul (by omega) (by omega) (by omega) (by omega)
        have hb2 : 40503 * (c + 1) * (c + 1) = 40503 * ((c + 1) * (c + 1)) := Int.mul_assoc _ _ _
        have hm0 := Int.fmod_nonneg_of_pos ((m + 104729 * (c + 1) + 17) ^ Int.toNat 5) (b := 2147483629) (by omega)
        have hm1 := Int.fmod_lt_of_pos ((m + 104729 * (c + 1) + 17) ^ Int.toNat 5) (b := 2147483629) (by omega)
        rw [hb2]
        generalize (c + 1) * (c + 1) = cc at hb0 hb1
        generalize ((m + 104729 * (c + 1) + 17) ^ Int.toNat 5).fmod 2147483629 = mx at hm0 hm1
        left
        refine k _ _ (Int.fmod_nonneg_of_pos _ hc) (Int.fmod_lt_of_pos _ hc) ⟨hne, xs, x, c + 1, m, upd_same, hg_ne (Ne.symm hne) h2, x0, by omega, by omega, m0, m1⟩ (fr.trans Fr.st)
    · clear h1 h2 x0 c00 c0n m0 m1 xs x c m
      rintro k' σ H1 ⟨xs, x, c, m, rfl, rfl, h1, h2, x0, c00, c0n, m0, m1, fr⟩
      left
      refine w_iteI (fun ex => ?_) (fun ex => ?_)
      · subst ex
        left
        refine ⟨by decide, fun p hp => ?_⟩
        have hps : st ≠ p := ne_of_none h1 hp
        have hpl : ls ≠ p := ne_of_none h2 hp
        have h1' : upd H1 p (.lst []) st = some (.lst [.ref ls, .int 0, .int c, .int m]) := hg_ne hps h1
        have h2' : upd H1 p (.lst []) ls = some (.lst (xs.map V.int)) := hg_ne hpl h2
        have fr' : Fr st ls H (upd H1 p (.lst [])) := fr.trans (Fr.new hp)
        refine ⟨_, _, .lst (SqL.of h2') (Dp.ints xs), .lst (SqL.of upd_same) .nil, shaped_ints xs, by rfl, ?_⟩
        generalize upd H1 p (.lst []) = H2 at h1' h2' fr'
        clear h1 h2 fr hp hps hpl
        cases xs with
        | nil =>
          left
          refine iteF ?_
          exact ⟨[], 0, c, m, rfl, h1', h2', x0, c00, c0n, m0, m1, fr'⟩
        | cons y r =>
          left
          refine iteT ?_
          left
          have g2 : Fr st ls H (upd H2 ls (.lst (r.map V.int))) := fr'.trans Fr.ls
          have g3 := g2.trans (Fr.st (st := st) (ls := ls) (o := .lst ([V.ref ls, V.int 0, V.int c, V.int m].set (Int.toNat 1) (V.int y))))
          refine w_ite (fun hy => ?_) (fun hy => ?_)
          · left
            exact ⟨r.length, Nat.lt_succ_self _, r, 0, c, _, rfl, rfl, upd_same, hg_ne (Ne.symm hne) (hg_ne (Ne.symm hne) (hg_ne (Ne.symm hne) upd_same)), by omega, c00, c0n, Int.fmod_nonneg_of_pos _ (by omega), Int.fmod_lt_of_pos _ (by omega), (g3.trans Fr.st).trans Fr.st⟩
          · left
            have hy0 : (10 : Int) ^ Int.toNat 18 = 1000000000000000000 := by decide
            exact ⟨r.length, Nat.lt_succ_self _, r, y, c, m, rfl, rfl, upd_same, hg_ne (Ne.symm hne) upd_same, by omega, c00, c0n, m0, m1, g3⟩
      · left
        exact ⟨xs, x, c, m, rfl, h1, h2, x0, c00, c0n, m0, m1, fr⟩
end

section
variable {P : Program} {w : World} {K : PySem.W.Frag} {mg : Str → Option Value} {base : Heap}
theorem StrAt.fr {H H' : Hp} {st ls : Addr} {n : Nat} (h : StrAt H st ls n) (e : ∀ b o, H b = some o → H' b = some o) : StrAt H' st ls n :=
  let ⟨hne, xs, x, c, m, h1, h2, r⟩ := h
  ⟨hne, xs, x, c, m, e _ _ h1, e _ _ h2, r⟩
theorem StrAt.up {H : Hp} {st ls : Addr} {n m : Nat} (h : StrAt H st ls n) (e : n ≤ m) : StrAt H st ls m :=
  let ⟨hne, xs, x, c, k, h1, h2, a, b, d, r⟩ := h
  ⟨hne, xs, x, c, k, h1, h2, a, b, by omega, r⟩
theorem StrAt.nest {H : Hp} {st ls p : Addr} {n : Nat} (h : StrAt H st ls n) (hp : H p = none) : p ≠ st ∧ p ≠ ls :=
  let ⟨_, _, _, _, _, h1, h2, _⟩ := h
  ⟨(ne_of_none h1 hp).symm, (ne_of_none h2 hp).symm⟩
theorem StrAt.new {H : Hp} {st ls p : Addr} {n : Nat} {o : HO} (h : StrAt H st ls n) (hp : H p = none) : StrAt (upd H p o) st ls n :=
  h.fr fun b u e => by rw [upd_ne (ne_of_none e hp)]; exact e
theorem atI_of {xs : List V} {v : Int} (h0 : 0 ≤ v) (h1 : v < xs.length) : ∃ y, atI xs v = some y ∧ y ∈ xs := by
  obtain ⟨j, rfl⟩ := Int.eq_ofNat_of_zero_le h0
  have hj : j < xs.length := by omega
  exact ⟨xs[j], atI_nat (List.getElem?_eq_getElem hj), List.getElem_mem hj⟩
/-- one of a list -/
def spPick : Sp := fun vs H Q _ => ∃ (st ls : Addr) (n : Nat) (l : Addr) (xs : List V), vs = [.ref st, .ref l] ∧ StrAt H st ls n ∧ n < 1000000 ∧ H l = some (.lst xs) ∧ l ≠ st ∧ l ≠ ls ∧ 0 < xs.length ∧ xs.length < 1000000 ∧
  ∀ (v : V) (H' : Hp), v ∈ xs → StrAt H' st ls (n + 1) → Fr st ls H H' → Q v H'
theorem ok_pick {f : Addr} {fd : FuncData} (F : Fun K "_law_pick" "_law_pick" s__law_pick f fd) (T : Txt K mg) (D__law_draw : CallOk P w K mg base "_law_draw" 1 spDraw) : FnOk P w K mg base CX0 3 f fd P__law_pick spPick := by
  refine F.ok sc__law_pick (fun vs H Q E h => ?_) (fun cdv A outer s H vs Q E hr h => ?_)
  · obtain ⟨_, _, _, _, _, rfl, _⟩ := h
    rfl
  · obtain ⟨st, ls, n, l, xs, rfl, hs, hn, hl, l1, l2, x0, x1, k⟩ := h
    refine ⟨_, (pss_one (ps_ret (pe_ix (ixL_k (K := K) rfl) (pv 1) (pe_callD D__law_draw (hr.mono (by decide)) (by rfl) (pa_cons (pv 0) (pa_cons (pe_callB (len_k (K := K) rfl) (by rfl) T.z_len PySem.boot_len (pa_cons (pv 1) pa_nil)) pa_nil))) (fun _ _ => rfl)))), ?_⟩
    left
    refine ⟨st, ls, n, _, rfl, hs, hn, by omega, by omega, fun v H' v0 v1 hs' fr => ?_⟩
    obtain ⟨y, ey, my⟩ := atI_of v0 v1
    exact ⟨l, xs, v, y, rfl, rfl, SqL.of (fr l _ l1 l2 hl), ey, k y H' my hs' fr⟩
/-- many octets -/
def spOcts : Sp := fun vs H Q _ => ∃ (st ls : Addr) (n m : Nat), vs = [.ref st, .int m] ∧ StrAt H st ls n ∧ n + 2 * m < 1000000 ∧ m < 1000 ∧
  ∀ (l : Addr) (xs : List Int) (H' : Hp), (∀ x ∈ xs, 0 ≤ x ∧ x < 256) → xs.length = m → StrAt H' st ls (n + 2 * m) → Fr st ls H H' → H l = none → H' l = some (.lst (xs.map V.int)) → Q (.ref l) H'
theorem ok_octs {f : Addr} {fd : FuncData} (F : Fun K "_law_some_octets" "_law_some_octets" s__law_some_octets f fd) (T : Txt K mg) (D__law_draw : CallOk P w K mg base "_law_draw" 1 spDraw) (D__law_pick : CallOk P w K mg base "_law_pick" 3 spPick) : FnOk P w K mg base CX0 5 f fd P__law_some_octets spOcts := by
  refine F.ok sc__law_some_octets (fun vs H Q E h => ?_) (fun cdv A outer s H vs Q E hr h => ?_)
  · obtain ⟨_, _, _, _, rfl, _⟩ := h
    rfl
  · obtain ⟨st, ls, n, m, rfl, hs, hn, hm, k⟩ := h
    refine ⟨_, (pss_one (ps_ret (pe_lc (own := [("_law_k", 2)]) rfl sc__law_some_octets.nd (pi_range1 (by rfl) T.z_range (pa_cons (pv 1) pa_nil)) (blkOk_by (N := N__law_some_octets) (sc := defScope s__law_some_octets) (by decide +kernel)) (fun _ _ _ _ _ => (pg_name (i := 2) sc__law_some_octets.nd rfl (Or.inl rfl))) (fun _ _ _ _ _ => pts_nil) (fun _ _ _ _ _ => (pe_callD D__law_pick (hr.mono (by decide)) (by rfl) (pa_cons (pv 0) (pa_cons (pe_lst (pa_cons pe_int (pa_cons pe_int (pa_cons pe_int (pa_cons pe_int (pa_cons pe_int (pa_cons (pe_callD D__law_draw (hr.mono (by decide)) (by rfl) (pa_cons (pv 0) (pa_cons pe_int pa_nil))) pa_nil))))))) pa_nil))))))), ?_⟩
    left
    refine w_rngGo (by omega) (w_lcR (fun D i H1 => ∃ xs : List Int, (∀ x ∈ xs, 0 ≤ x ∧ x < 256) ∧ xs.length = i ∧ StrAt H1 st ls (n + 2 * i) ∧ Fr st ls H H1 ∧ H1 D = some (.lst (xs.map V.int))) ?_ ?_ ?_)
    · intro D hD
      exact ⟨[], by simp, rfl, hs.new hD, Fr.new hD, upd_same⟩
    · rintro D i H1 hD hi ⟨xs, hx, hl, hs1, fr, e⟩
      left
      refine ⟨rfl, ?_⟩
      left
      refine ⟨st, ls, _, _, rfl, hs1, by omega, by omega, by omega, fun v H2 v0 v1 hs2 fr2 => ?_⟩
      left
      refine ⟨by show 6 ≤ sizeLine; decide, fun p hp => ?_⟩
      obtain ⟨p1, p2⟩ := hs2.nest hp
      obtain ⟨D1, D2⟩ := hs.nest hD
      have hDp : D ≠ p := ne_of_none (fr2 D _ D1 D2 e) hp
      left
      refine ⟨st, ls, _, _, _, rfl, hs2.new hp, by omega, upd_same, p1, p2, by show 0 < 6; decide, by show 6 < 1000000; decide, fun y H3 hy hs3 fr3 => ?_⟩
      have e3 : H3 D = some (.lst (xs.map V.int)) := fr3 D _ D1 D2 (hg_ne hDp (fr2 D _ D1 D2 e))
      obtain ⟨z, rfl, hz⟩ : ∃ z : Int, y = .int z ∧ 0 ≤ z ∧ z < 256 := by
        simp only [List.mem_cons, List.not_mem_nil, or_false] at hy
        rcases hy with rfl | rfl | rfl | rfl | rfl | rfl
        all_goals exact ⟨_, rfl, by omega, by omega⟩
      refine ⟨_, e3, by rw [List.length_map, hl]; exact Nat.lt_of_lt_of_le (Nat.lt_trans hi hm) (by decide), xs ++ [z], ?_, by rw [List.length_append, hl]; rfl, ?_, ?_, by rw [List.map_append]; exact upd_same⟩
      · intro x hx'
        rcases List.mem_append.mp hx' with h | h
        · exact hx x h
        · rw [List.mem_singleton.mp h]; exact hz
      · obtain ⟨hne, xs', x', c', m', h1, h2, r⟩ := hs3
        exact StrAt.up ⟨hne, xs', x', c', m', hg_ne (Ne.symm D1) h1, hg_ne (Ne.symm D2) h2, r⟩ (by omega)
      · intro b o b1 b2 hb
        have hbD : b ≠ D := ne_of_none hb hD
        rw [upd_ne hbD]
        refine fr3 b o b1 b2 ?_
        have hb2 := fr2 b o b1 b2 (fr b o b1 b2 hb)
        rw [upd_ne (ne_of_none hb2 hp)]; exact hb2
    · rintro D H1 hD ⟨xs, hx, hl, hs1, fr, e⟩
      exact k D xs H1 hx hl hs1 fr hD e
/-- a place, right or not -/
def spPlace : Sp := fun vs H Q _ => ∃ (st ls : Addr) (n m k : Nat), vs = [.ref st, .int m, .int k] ∧ StrAt H st ls n ∧ n + 3 < 1000000 ∧ m < 1000 ∧ k < 1000 ∧
  ∀ (v : Int) (H' : Hp), -100000000000000000000000 < v → v < 100000000000000000000000 → StrAt H' st ls (n + 3) → Fr st ls H H' → Q (.int v) H'
theorem ok_place {f : Addr} {fd : FuncData} (F : Fun K "_law_place" "_law_place" s__law_place f fd) (T : Txt K mg) (D__law_draw : CallOk P w K mg base "_law_draw" 1 spDraw) (D__law_pick : CallOk P w K mg base "_law_pick" 3 spPick) : FnOk P w K mg base CX0 5 f fd P__law_place spPlace := by
  refine F.ok sc__law_place (fun vs H Q E h => ?_) (fun cdv A outer s H vs Q E hr h => ?_)
  · obtain ⟨_, _, _, _, _, rfl, _⟩ := h
    rfl
  · obtain ⟨st, ls, n, m, j, rfl, hs, hn, hm, hj, k⟩ := h
    refine ⟨_, (pss_cons (ps_set (i := 3) sc__law_place.nd rfl (Or.inl rfl) (pe_callD D__law_draw (hr.mono (by decide)) (by rfl) (pa_cons (pv 0) (pa_cons pe_int pa_nil))))
      (pss_cons (ps_if (pt_cmpR op_eq (pv 3) pe_int (nomark _)) (pss_one (ps_ret (pe_op op_sub (pe_op op_add (pe_op op_sub (pv 2) (pv 1)) (pe_callD D__law_draw (hr.mono (by decide)) (by rfl) (pa_cons (pv 0) (pa_cons pe_int pa_nil)))) pe_int))) pss_nil)
      (pss_cons (ps_if (pt_cmpR op_eq (pv 3) pe_int (nomark _)) (pss_cons (ps_set (i := 4) sc__law_place.nd rfl (Or.inl rfl) (pe_lst (pa_cons (pe_un un_neg pe_int) (pa_cons pe_int (pa_cons pe_int (pa_cons (pe_op op_mul (pe_un un_neg pe_int) (pe_op op_pow pe_int pe_int)) (pa_cons (pe_op op_mul pe_int (pe_op op_pow pe_int pe_int)) (pa_cons (pv 2) (pa_cons (pe_op op_add (pv 2) pe_int) pa_nil)))))))))
      (pss_one (ps_ret (pe_callD D__law_pick (hr.mono (by decide)) (by rfl) (pa_cons (pv 0) (pa_cons (pv 4) pa_nil)))))) pss_nil)
      (pss_one (ps_ret (pe_callD D__law_draw (hr.mono (by decide)) (by rfl) (pa_cons (pv 0) (pa_cons (pe_op op_add (pv 2) pe_int) pa_nil)))))))), ?_⟩
    left
    refine ⟨st, ls, n, _, rfl, hs, by omega, by omega, by omega, fun v H1 v0 v1 hs1 fr1 => ?_⟩
    left
    refine w_iteI (fun e => ?_) (fun e => ?_)
    · left
      refine ⟨st, ls, _, _, rfl, hs1, by omega, by omega, by omega, fun v' H2 v0 v1 hs2 fr2 => ?_⟩
      left
      exact k _ H2 (by omega) (by omega) (hs2.up (by omega)) (fr1.trans fr2)
    · left
      refine w_iteI (fun e => ?_) (fun e => ?_)
      · left
        refine ⟨by show 7 ≤ sizeLine; decide, fun p hp => ?_⟩
        obtain ⟨p1, p2⟩ := hs1.nest hp
        left
        refine ⟨st, ls, _, _, _, rfl, hs1.new hp, by omega, upd_same, p1, p2, by show 0 < 7; decide, by show 7 < 1000000; decide, fun y H3 hy hs3 fr3 => ?_⟩
        have e64 : (2 : Int) ^ Int.toNat 64 = 18446744073709551616 := by decide
        have fr4 : Fr st ls H H3 := fr1.trans ((Fr.new hp).trans fr3)
        simp only [List.mem_cons, List.not_mem_nil, or_false] at hy
        rcases hy with rfl | rfl | rfl | rfl | rfl | rfl | rfl
        all_goals exact k _ H3 (by omega) (by omega) (hs3.up (by omega)) fr4
      · left
        refine ⟨st, ls, _, _, rfl, hs1, by omega, by omega, by omega, fun v' H2 v0 v1 hs2 fr2 => ?_⟩
        exact k _ H2 (by omega) (by omega) (hs2.up (by omega)) (fr1.trans fr2)
/-! ### the program: basics, memories -/
/-- is it an integer: of an int yes, of a list no -/
def spWhole : Sp := fun vs H Q _ => (∃ i : Int, vs = [.int i] ∧ Q (.bl true) H) ∨ ∃ (a : Addr) (xs : List V), vs = [.ref a] ∧ H a = some (.lst xs) ∧ Q (.bl false) H
theorem ok_whole {f : Addr} {fd : FuncData} (F : Fun K "is_whole" "is_whole" s_is_whole f fd) (T : Txt K mg) : FnOk P w K mg base CX0 1 f fd P_is_whole spWhole := by
  refine F.ok sc_is_whole (fun vs H Q E h => ?_) (fun cdv A outer s H vs Q E hr h => ?_)
  · rcases h with ⟨_, rfl, _⟩ | ⟨_, _, rfl, _⟩ <;> rfl
  · refine ⟨_, (pss_one (ps_ret (pe_and (pe_callB (isi_k (K := K) rfl) (by rfl) T.z_isinstance (by decide +kernel) (pa_cons (pv 0) (pa_cons (pe_bltn (v := .ty "int") (by rfl) T.z_int (by decide +kernel) rfl) pa_nil))) (pe_one (pe_not (pe_callB (isi_k (K := K) rfl) (by rfl) T.z_isinstance (by decide +kernel) (pa_cons (pv 0) (pa_cons (pe_bltn (v := .ty "bool") (by rfl) T.z_bool (by decide +kernel) rfl) pa_nil)))))))), ?_⟩
    rcases h with ⟨i, rfl, k⟩ | ⟨a, xs, rfl, ha, k⟩
    · left
      exact k
    · left
      exact k
def spOctet : Sp := fun vs H Q _ => ∃ i : Int, vs = [.int i] ∧ Q (.bl (decide (0 ≤ i ∧ i ≤ 255))) H
theorem ok_octet {f : Addr} {fd : FuncData} (F : Fun K "is_octet" "is_octet" s_is_octet f fd) (T : Txt K mg) (D_is_whole : CallOk P w K mg base "is_whole" 1 spWhole) : FnOk P w K mg base CX0 3 f fd P_is_octet spOctet := by
  refine F.ok sc_is_octet (fun vs H Q E h => ?_) (fun cdv A outer s H vs Q E hr h => ?_)
  · obtain ⟨_, rfl, _⟩ := h
    rfl
  · obtain ⟨i, rfl, k⟩ := h
    refine ⟨_, (pss_one (ps_ret (pe_and (pe_callD D_is_whole (hr.mono (by decide)) (by rfl) (pa_cons (pv 0) pa_nil)) (pe_one (pe_chain op_le op_le pe_int (pv 0) pe_int))))), ?_⟩
    left
    refine .inl ⟨i, rfl, ?_⟩
    left
    refine w_ite (fun h => ?_) (fun h => ?_)
    · left
      have e : decide (i ≤ 255) = decide (0 ≤ i ∧ i ≤ 255) := by simp [h]
      rw [e]; exact k
    · have e : false = decide (0 ≤ i ∧ i ≤ 255) := by simp [h]
      rw [e]; exact k
def spRoom : Sp := fun vs H Q _ => ∃ t m n : Int, vs = [.int t, .int m, .int n] ∧ Q (.bl (decide (0 ≤ t ∧ t + m ≤ n))) H
theorem ok_room {f : Addr} {fd : FuncData} (F : Fun K "has_room" "has_room" s_has_room f fd) (T : Txt K mg) : FnOk P w K mg base CX0 1 f fd P_has_room spRoom := by
  refine F.ok sc_has_room (fun vs H Q E h => ?_) (fun cdv A outer s H vs Q E hr h => ?_)
  · obtain ⟨_, _, _, rfl, _⟩ := h
    rfl
  · obtain ⟨t, m, n, rfl, k⟩ := h
    refine ⟨_, (pss_one (ps_ret (pe_and (pe_cmpR op_ge (pv 0) pe_int (nomark _)) (pe_one (pe_cmpR op_le (pe_op op_add (pv 0) (pv 1)) (pv 2) (nomark _)))))), ?_⟩
    left
    refine w_ite (fun h => ?_) (fun h => ?_)
    · left
      have e : decide (t + m ≤ n) = decide (0 ≤ t ∧ t + m ≤ n) := by simp [h]
      rw [e]; exact k
    · have e : false = decide (0 ≤ t ∧ t + m ≤ n) := by simp [h]
      rw [e]; exact k
end

/-! ### memories -/
/-- a memory at p: its octets stand at l -/
def MemAt (H : Hp) (C p l : Addr) (xs : List Int) : Prop := p ≠ l ∧ ∃ dx, H p = some (.ins C dx [("cells", .ref l)]) ∧ H l = some (.lst (xs.map V.int))
section
variable {P : Program} {w : World} {K : PySem.W.Frag} {mg : Str → Option Value} {base : Heap}
/-- a new list of the octets, all right -/
def spChk : Sp := fun vs H Q _ => ∃ (a : Addr) (xs : List Int), vs = [.ref a] ∧ H a = some (.lst (xs.map V.int)) ∧ (∀ x ∈ xs, 0 ≤ x ∧ x < 256) ∧ ∀ p, H p = none → Q (.ref p) (upd H p (.lst (xs.map V.int)))
theorem get_map {xs : List Int} {i : Nat} {x : V} (h : (xs.map V.int)[i]? = some x) : ∃ z, x = .int z ∧ z ∈ xs := by
  rw [List.getElem?_map] at h
  cases e : xs[i]? with
  | none => rw [e] at h; cases h
  | some z => rw [e] at h; exact ⟨z, (Option.some.inj h).symm, List.mem_of_getElem? e⟩
theorem ok_chk {f : Addr} {fd : FuncData} (F : Fun K "checked_octets" "checked_octets" s_checked_octets f fd) (T : Txt K mg) (D_is_octet : CallOk P w K mg base "is_octet" 3 spOctet) : FnOk P w K mg base CX0 5 f fd P_checked_octets spChk := by
  refine F.ok sc_checked_octets (fun vs H Q E h => ?_) (fun cdv A outer s H vs Q E hr h => ?_)
  · obtain ⟨_, _, rfl, _⟩ := h
    rfl
  · obtain ⟨a, xs, rfl, ha, hx, k⟩ := h
    refine ⟨_, (pss_cons (ps_for PassesOwn.never rfl (ilist_k (K := K) rfl (pv 0)) (pg_name (i := 1) sc_checked_octets.nd rfl (Or.inl rfl)) (pss_one (ps_if (pt_not (pt_val (pe_callD D_is_octet (hr.mono (by decide)) (by rfl) (pa_cons (pv 1) pa_nil)))) (pss_one ps_never) pss_nil)))
      (pss_one (ps_ret (pe_callTy (list_k (K := K) rfl) (by rfl) T.z_list (by decide +kernel) (pa_cons (pv 0) pa_nil))))), ?_⟩
    left
    refine w_listGo ha (w_forL (xs := xs.map V.int) (fun i σ H1 => (∃ v, σ = [some (.ref a), v]) ∧ H1 = H) ⟨⟨none, rfl⟩, rfl⟩ ?_ ?_ ?_)
    · rintro i σ H1 _ ⟨_, rfl⟩
      exact ha
    · rintro i x σ H1 hi ⟨⟨v, rfl⟩, rfl⟩
      obtain ⟨z, rfl, hz⟩ := get_map hi
      left
      refine ⟨z, rfl, ?_⟩
      have hd : decide (0 ≤ z ∧ z ≤ 255) = true := decide_eq_true (by have := hx z hz; omega)
      rw [hd]
      left
      exact ⟨⟨_, rfl⟩, rfl⟩
    · rintro σ H1 ⟨⟨v, rfl⟩, rfl⟩
      left
      exact k
/-- Memory(octets), a list of right octets -/
def spMem (C : Addr) : Sp := fun vs H Q _ => ∃ (p a dx : Addr) (xs : List Int), vs = [.ref p, .ref a] ∧ H p = some (.ins C dx []) ∧ H a = some (.lst (xs.map V.int)) ∧ (∀ x ∈ xs, 0 ≤ x ∧ x < 256) ∧
  ∀ (l : Addr) (H' : Hp), H l = none → MemAt H' C p l xs → (∀ b o, b ≠ p → H b = some o → H' b = some o) → Q .non H'
theorem ok_mem {f C : Addr} {fd : FuncData} (F : Fun K "__init__" "Memory.__init__" s_Memory___init__ f fd) (T : Txt K mg) (c_Memory : Cls K C) (n_cells : NoAttr K C "cells") (D_is_whole : CallOk P w K mg base "is_whole" 1 spWhole) (D_checked_octets : CallOk P w K mg base "checked_octets" 5 spChk) : FnOk P w K mg base CX0 7 f fd P_Memory___init__ (spMem C) := by
  refine F.ok sc_Memory___init__ (fun vs H Q E h => ?_) (fun cdv A outer s H vs Q E hr h => ?_)
  · obtain ⟨_, _, _, _, rfl, _⟩ := h
    rfl
  · obtain ⟨p, a, dx, xs, rfl, hp, ha, hx, k⟩ := h
    refine ⟨_, (pss_one (ps_if (pt_val (pe_callD D_is_whole (hr.mono (by decide)) (by rfl) (pa_cons (pv 1) pa_nil))) (pss_one (ps_fld (pv 0) (pe_op op_rep (pe_lst (pa_cons pe_int pa_nil)) (pv 1)) rfl)) (pss_one (ps_fld (pv 0) (pe_callD D_checked_octets (hr.mono (by decide)) (by rfl) (pa_cons (pv 1) pa_nil)) rfl)))), ?_⟩
    left
    refine .inr ⟨a, _, rfl, ha, ?_⟩
    left
    refine ⟨a, xs, rfl, ha, hx, fun l hl => ?_⟩
    have hpl : p ≠ l := ne_of_none hp hl
    left
    refine k l _ hl ⟨hpl, dx, upd_same, hg_ne (Ne.symm hpl) upd_same⟩ fun b o b1 hb => hg_ne b1 (hg_ne (ne_of_none hb hl) hb)
/-- octets(): a new list -/
def spOctsM (C : Addr) : Sp := fun vs H Q _ => ∃ (p l : Addr) (xs : List Int), vs = [.ref p] ∧ MemAt H C p l xs ∧ ∀ q, H q = none → Q (.ref q) (upd H q (.lst (xs.map V.int)))
theorem ok_octsM {f C : Addr} {fd : FuncData} (F : Fun K "octets" "Memory.octets" s_Memory_octets f fd) (T : Txt K mg) (c_Memory : Cls K C) (n_cells : NoAttr K C "cells") : FnOk P w K mg base CX0 1 f fd P_Memory_octets (spOctsM C) := by
  refine F.ok sc_Memory_octets (fun vs H Q E h => ?_) (fun cdv A outer s H vs Q E hr h => ?_)
  · obtain ⟨_, _, _, rfl, _⟩ := h
    rfl
  · obtain ⟨p, l, xs, rfl, ⟨hpl, dx, hp, hl⟩, k⟩ := h
    refine ⟨_, (pss_one (ps_ret (pe_callTy (list_k (K := K) rfl) (by rfl) T.z_list (by decide +kernel) (pa_cons (fld_k (K := K) rfl (pv 0) rfl) pa_nil)))), ?_⟩
    left
    exact k
end

section
variable {P : Program} {w : World} {K : PySem.W.Frag} {mg : Str → Option Value} {base : Heap}
theorem ok_err_BadAddress {f C : Addr} {fd : FuncData} (F : Fun K "__init__" "BadAddress.__init__" s_BadAddress___init__ f fd) (o : OexC K C) (nf : PySem.W.findIn K (.ref C) "octet" = some none) : FnOk P w K mg base CX0 1 f fd P_BadAddress___init__ (spErr C "octet") := by
  refine F.ok sc_BadAddress___init__ (fun vs H Q E h => ?_) (fun cdv A outer s H vs Q E hr h => ?_)
  · obtain ⟨_, _, rfl, _⟩ := h
    rfl
  · obtain ⟨a, v, rfl, ha, k⟩ := h
    refine ⟨_, pss_one (ps_ost (pv 0) (pv 1)), ?_⟩
    exact ⟨v, rfl, .ref a, rfl, a, C, rfl, o, nf, .inl ⟨ha, fun d hd hda => k d hd hda⟩⟩
/-- what a move makes -/
def moved (xs : List Int) (t s m : Int) : List Int := xs.take t.toNat ++ (xs.drop s.toNat).take m.toNat ++ xs.drop (t + m).toNat
def spMove (C CB : Addr) : Sp := fun vs H Q E => ∃ (p l : Addr) (xs : List Int) (t s m : Int), vs = [.ref p, .int t, .int s, .int m] ∧ MemAt H C p l xs ∧ xs.length ≤ 1000 ∧ 0 ≤ m ∧
  (¬ (0 ≤ t ∧ t + m ≤ xs.length) → ∀ d H', H d = none → Same H H' → H' d = some (.xd [("octet", .int t)]) → E (.ref CB) (some d) H') ∧
  (0 ≤ t ∧ t + m ≤ xs.length → ¬ (0 ≤ s ∧ s + m ≤ xs.length) → ∀ d H', H d = none → Same H H' → H' d = some (.xd [("octet", .int s)]) → E (.ref CB) (some d) H') ∧
  (0 ≤ t ∧ t + m ≤ xs.length → 0 ≤ s ∧ s + m ≤ xs.length → ∀ H', MemAt H' C p l (moved xs t s m) → (∀ b o, b ≠ l → H b = some o → H' b = some o) → Q .non H')
theorem cut_map (xs : List Int) (s m : Int) (h0 : 0 ≤ s) (h1 : 0 ≤ m) (h2 : s + m ≤ xs.length) : cutV (xs.map V.int) (some s) (some (s + m)) = ((xs.drop s.toNat).take m.toNat).map V.int := by
  obtain ⟨a, rfl⟩ := Int.eq_ofNat_of_zero_le h0
  obtain ⟨b, rfl⟩ := Int.eq_ofNat_of_zero_le h1
  have e : ((a : Int) + (b : Int)) = ((a + b : Nat) : Int) := by omega
  unfold cutV
  rw [e, HT.sIx_nat, HT.sIx_nat, List.length_map, Int.toNat_natCast, Int.toNat_natCast, List.map_take, List.map_drop]
  have e1 : min a xs.length = a := by omega
  have e2 : min (a + b) xs.length - a = b := by omega
  rw [e1, e2]
theorem ok_move {f C CB : Addr} {fd : FuncData} (F : Fun K "move" "Memory.move" s_Memory_move f fd) (T : Txt K mg) (c_Memory : Cls K C) (n_cells : NoAttr K C "cells") (D_has_room : CallOk P w K mg base "has_room" 1 spRoom) (E_BadAddress : ErrOk P w K mg base "BadAddress" CB "octet") : FnOk P w K mg base (L2.CX P w) 5 f fd P_Memory_move (spMove C CB) := by
  refine F.okX sc_Memory_move (fun vs H Q E h => ?_) (fun cdv A outer s H vs Q E hr h => ?_)
  · obtain ⟨_, _, _, _, _, _, rfl, _⟩ := h
    rfl
  · obtain ⟨p, l, xs, t, so, m, rfl, ⟨hpl, dx, hp, hl⟩, hz, m0, k1, k2, k3⟩ := h
    refine ⟨_, (pss_cons (ps_if (pt_not (pt_val (pe_callD D_has_room (hr.mono (by decide)) (by rfl) (pa_cons (pv 1) (pa_cons (pv 3) (pa_cons (pe_callB (len_k (K := K) rfl) (by rfl) T.z_len PySem.boot_len (pa_cons (fld_k (K := K) rfl (pv 0) rfl) pa_nil)) pa_nil)))))) (pss_one (ps_raise rfl (takes_of rfl rfl rfl rfl) (pmk_err E_BadAddress (hr.mono (by decide)) (by rfl) (pa_cons (pv 1) pa_nil)))) pss_nil)
      (pss_cons (ps_if (pt_not (pt_val (pe_callD D_has_room (hr.mono (by decide)) (by rfl) (pa_cons (pv 2) (pa_cons (pv 3) (pa_cons (pe_callB (len_k (K := K) rfl) (by rfl) T.z_len PySem.boot_len (pa_cons (fld_k (K := K) rfl (pv 0) rfl) pa_nil)) pa_nil)))))) (pss_one (ps_raise rfl (takes_of rfl rfl rfl rfl) (pmk_err E_BadAddress (hr.mono (by decide)) (by rfl) (pa_cons (pv 2) pa_nil)))) pss_nil)
      (pss_one (ps_asg (pe_slice (slL_k (K := K) rfl) (fld_k (K := K) rfl (pv 0) rfl) (po_some (pv 2)) (po_some (pe_op op_add (pv 2) (pv 3)))) (pg_slice (fld_k (K := K) rfl (pv 0) rfl) (pv 1) (pe_op op_add (pv 1) (pv 3))))))), ?_⟩
    left
    refine ⟨_, _, _, rfl, ?_⟩
    left
    rw [List.length_map]
    refine w_iteN (fun hb => ?_) (fun hb => ?_)
    · left
      exact w_errGo (k1 (of_decide_eq_false hb))
    · have b1 := of_decide_eq_true hb
      left
      refine ⟨_, _, _, rfl, ?_⟩
      left
      rw [List.length_map]
      refine w_iteN (fun hb => ?_) (fun hb => ?_)
      · left
        exact w_errGo (k2 b1 (of_decide_eq_false hb))
      · have b2 := of_decide_eq_true hb
        left
        intro q hq
        have hpq : p ≠ q := ne_of_none hp hq
        have hlq : l ≠ q := ne_of_none hl hq
        rw [cut_map xs so m b2.1 m0 b2.2]
        left
        refine ⟨l, q, _, _, t, t + m, rfl, rfl, rfl, rfl, hg_ne hlq hl, upd_same, hlq, b1.1, by omega, by rw [List.length_map]; exact b1.2, ?_, ?_⟩
        · rw [List.length_map, List.length_map, List.length_take, List.length_drop]
          exact Nat.le_trans (by omega : _ ≤ 2000) (by decide)
        · refine k3 b1 b2 _ ⟨hpl, dx, hg_ne hpl (hg_ne hpq hp), ?_⟩ fun b o b1 hb => hg_ne b1 (hg_ne (ne_of_none hb hq) hb)
          rw [upd_same]
          unfold moved
          simp only [List.map_append, List.map_take, List.map_drop]
end

section
variable {P : Program} {w : World} {K : PySem.W.Frag} {mg : Str → Option Value} {base : Heap}
/-- ('told', None), or ('address', the one that is wrong) -/
def spMoved (C : Addr) : Sp := fun vs H Q _ => ∃ (p l : Addr) (xs : List Int) (t s m : Int), vs = [.ref p, .int t, .int s, .int m] ∧ MemAt H C p l xs ∧ xs.length ≤ 1000 ∧ 0 ≤ m ∧
  (¬ (0 ≤ t ∧ t + m ≤ xs.length) → ∀ q H', H q = none → Same H H' → H' q = some (.tup [.str "address", .int t]) → Q (.ref q) H') ∧
  (0 ≤ t ∧ t + m ≤ xs.length → ¬ (0 ≤ s ∧ s + m ≤ xs.length) → ∀ q H', H q = none → Same H H' → H' q = some (.tup [.str "address", .int s]) → Q (.ref q) H') ∧
  (0 ≤ t ∧ t + m ≤ xs.length → 0 ≤ s ∧ s + m ≤ xs.length → ∀ q H', H q = none → MemAt H' C p l (moved xs t s m) → (∀ b o, b ≠ l → H b = some o → H' b = some o) → H' q = some (.tup [.str "told", .non]) → Q (.ref q) H')
theorem ok_moved {f C CB : Addr} {fd : FuncData} (F : Fun K "_law_moved" "_law_moved" s__law_moved f fd) (T : Txt K mg) (c_Memory : Cls K C) (D_move : MethOk P w K mg base C "move" 5 (spMove C CB)) (E_BadAddress : ErrOk P w K mg base "BadAddress" CB "octet") (te : PySem.W.exmOne K (.ref CB) (.ref CB) = some true) : FnOk P w K mg base CX0 7 f fd P__law_moved (spMoved C) := by
  refine F.ok sc__law_moved (fun vs H Q E h => ?_) (fun cdv A outer s H vs Q E hr h => ?_)
  · obtain ⟨_, _, _, _, _, _, rfl, _⟩ := h
    rfl
  · obtain ⟨p, l, xs, t, so, m, rfl, hM, hz, m0, k1, k2, k3⟩ := h
    refine ⟨_, (pss_cons (ps_set (i := 4) sc__law_moved.nd rfl (Or.inl rfl) pe_non)
      (pss_cons (ps_try_as (i := 5) rfl rfl sc__law_moved.nd rfl rfl ⟨rfl, by decide, Or.inl E_BadAddress.mgC⟩ takes0 (fun W pn xe tk _ => (pss_one (ps_set (i := 4) sc__law_moved.nd rfl (Or.inl rfl) (pe_tup (pa_cons pe_str (pa_cons (pe_methW tk (pv 0) c_Memory D_move (hr.mono (by decide)) (pa_cons (pv 1) (pa_cons (pv 2) (pa_cons (pv 3) pa_nil)))) pa_nil)))))) (fun a oe cls d pn hz hf => (pss_one (ps_set (i := 4) sc__law_moved.nd rfl (Or.inl rfl) (pe_tup (pa_cons pe_str (pa_cons (pe_xf E_BadAddress.xf E_BadAddress.nf hz hf (pv 5)) pa_nil)))))))
      (pss_one (ps_ret (pv 4))))), ?_⟩
    have hM' := hM
    obtain ⟨hpl, dx, hp, hl⟩ := hM'
    left
    refine ⟨p, l, xs, t, so, m, rfl, hM, hz, m0, fun b1 d H1 hd sm hx => ?_, fun b1 b2 d H1 hd sm hx => ?_, fun b1 b2 H1 hM1 fr => ?_⟩
    · refine ⟨true, te, fun _ a ha => ?_, fun z => Bool.noConfusion z⟩
      left
      refine ⟨by show 2 ≤ sizeLine; decide, fun q hq => ?_⟩
      left
      exact k1 b1 q _ (sm.free hq) (fun b o hb => hg_ne (ne_of_none (sm b o hb) hq) (sm b o hb)) upd_same
    · refine ⟨true, te, fun _ a ha => ?_, fun z => Bool.noConfusion z⟩
      left
      refine ⟨by show 2 ≤ sizeLine; decide, fun q hq => ?_⟩
      left
      exact k2 b1 b2 q _ (sm.free hq) (fun b o hb => hg_ne (ne_of_none (sm b o hb) hq) (sm b o hb)) upd_same
    · left
      refine ⟨by show 2 ≤ sizeLine; decide, fun q hq => ?_⟩
      left
      obtain ⟨_, dx1, hp1, hl1⟩ := id hM1
      have hqH : H q = none := by
        cases e : H q with
        | none => rfl
        | some o =>
          by_cases hql : q = l
          · rw [hql, hl1] at hq; cases hq
          · rw [fr q o hql e] at hq; cases hq
      exact k3 b1 b2 q _ hqH ⟨hpl, dx1, hg_ne (ne_of_none hp1 hq) hp1, hg_ne (ne_of_none hl1 hq) hl1⟩ (fun b o b1 hb => hg_ne (ne_of_none (fr b o b1 hb) hq) (fr b o b1 hb)) upd_same
/-! ### the same data -/
inductive Rep (H : Hp) : Nat → V → V → Prop
  | non {n : Nat} : Rep H n .non .non
  | int {n : Nat} (i : Int) : Rep H n (.int i) (.int i)
  | bl {n : Nat} (b : Bool) : Rep H n (.bl b) (.bl b)
  | str {n : Nat} (x : Str) : Rep H n (.str x) (.str x)
  | lst {n : Nat} {a b : Addr} {xs ys : List V} : H a = some (.lst xs) → H b = some (.lst ys) → xs.length = ys.length → xs.length ≤ 1000000 → (∀ (i : Nat) x y, xs[i]? = some x → ys[i]? = some y → Rep H n x y) → Rep H (n + 1) (.ref a) (.ref b)
  | tup {n : Nat} {a b : Addr} {xs ys : List V} : H a = some (.tup xs) → H b = some (.tup ys) → xs.length = ys.length → xs.length ≤ 1000000 → (∀ (i : Nat) x y, xs[i]? = some x → ys[i]? = some y → Rep H n x y) → Rep H (n + 1) (.ref a) (.ref b)
theorem Rep.same {H H' : Hp} (e : Same H H') : ∀ {n : Nat} {x y : V}, Rep H n x y → Rep H' n x y
  | _, _, _, .non => .non
  | _, _, _, .int i => .int i
  | _, _, _, .bl b => .bl b
  | _, _, _, .str x => .str x
  | _, _, _, .lst h1 h2 hl hz k => .lst (e _ _ h1) (e _ _ h2) hl hz fun i x y hx hy => Rep.same e (k i x y hx hy)
  | _, _, _, .tup h1 h2 hl hz k => .tup (e _ _ h1) (e _ _ h2) hl hz fun i x y hx hy => Rep.same e (k i x y hx hy)
def spSame : Nat → Sp
  | 0 => fun _ _ _ _ => False
  | n + 1 => fun vs H Q _ => ∃ x y, vs = [x, y] ∧ Rep H n x y ∧ ∀ H', Same H H' → Q (.bl true) H'
theorem ok_same {f : Addr} {fd : FuncData} (n : Nat) (F : Fun K "_law_same" "_law_same" s__law_same f fd) (T : Txt K mg) (D__law_same : CallOk P w K mg base "_law_same" n (spSame n)) : FnOk P w K mg base CX0 (n + 1) f fd P__law_same (spSame (n + 1)) := by
  refine F.ok sc__law_same (fun vs H Q E h => ?_) (fun cdv A outer s H vs Q E hr h => ?_)
  · obtain ⟨_, _, rfl, _⟩ := h
    rfl
  · obtain ⟨x, y, rfl, R, k⟩ := h
    refine ⟨_, (pss_cons (ps_if (pt_val (pe_callB (isi_k (K := K) rfl) (by rfl) T.z_isinstance (by decide +kernel) (pa_cons (pv 1) (pa_cons (pe_bltn (v := .ty "dict") (by rfl) T.z_dict (by decide +kernel) rfl) pa_nil)))) (pss_one ps_never) pss_nil)
      (pss_cons (ps_if (pt_val (pe_callB (isiT_k (K := K) rfl) (by rfl) T.z_isinstance (by decide +kernel) (pa_cons (pv 1) (pa_cons (pe_tup (pa_cons (pe_bltn (v := .ty "list") (by rfl) T.z_list (by decide +kernel) rfl) (pa_cons (pe_bltn (v := .ty "tuple") (by rfl) T.z_tuple (by decide +kernel) rfl) pa_nil))) pa_nil)))) (pss_cons (ps_if (PW.pt (pw_or (pt_cmpR op_ne (pe_callB (isi_k (K := K) rfl) (by rfl) T.z_isinstance (by decide +kernel) (pa_cons (pv 0) (pa_cons (pe_bltn (v := .ty "list") (by rfl) T.z_list (by decide +kernel) rfl) pa_nil))) (pe_callB (isi_k (K := K) rfl) (by rfl) T.z_isinstance (by decide +kernel) (pa_cons (pv 1) (pa_cons (pe_bltn (v := .ty "list") (by rfl) T.z_list (by decide +kernel) rfl) pa_nil))) (nomark _)) (pw_or1 (pt_cmpR op_ne (pe_callB (isi_k (K := K) rfl) (by rfl) T.z_isinstance (by decide +kernel) (pa_cons (pv 0) (pa_cons (pe_bltn (v := .ty "tuple") (by rfl) T.z_tuple (by decide +kernel) rfl) pa_nil))) (pe_callB (isi_k (K := K) rfl) (by rfl) T.z_isinstance (by decide +kernel) (pa_cons (pv 1) (pa_cons (pe_bltn (v := .ty "tuple") (by rfl) T.z_tuple (by decide +kernel) rfl) pa_nil))) (nomark _))))) (pss_one (ps_ret pe_bl)) pss_nil)
      (pss_one (ps_ret (pe_and (pe_cmpR op_eq (pe_callB (len_k (K := K) rfl) (by rfl) T.z_len PySem.boot_len (pa_cons (pv 0) pa_nil)) (pe_callB (len_k (K := K) rfl) (by rfl) T.z_len PySem.boot_len (pa_cons (pv 1) pa_nil)) (nomark _)) (pe_one (pe_callB (all_k (K := K) rfl rfl) (by rfl) T.z_all (by decide +kernel) (pa_cons (pe_lc (own := [("_law_one", 2), ("_law_two", 3)]) rfl sc__law_same.nd (pi_zipA (by rfl) T.z_zip (pa_cons (pv 0) (pa_cons (pv 1) pa_nil))) (blkOk_by (N := N__law_same) (sc := defScope s__law_same) (by decide +kernel)) (fun _ _ _ _ _ => (gtup_k (K := K) (n := 2) rfl rfl (pgs_cons (pg_name (i := 2) sc__law_same.nd rfl (Or.inl rfl)) (pgs_cons (pg_name (i := 3) sc__law_same.nd rfl (Or.inl rfl)) pgs_nil)))) (fun _ _ _ _ _ => pts_nil) (fun _ _ _ _ _ => (pe_callD D__law_same hr (by rfl) (pa_cons (pv 2) (pa_cons (pv 3) pa_nil))))) pa_nil))))))) pss_nil)
      (pss_cons (ps_if (pt_val (pe_callB (isi_k (K := K) rfl) (by rfl) T.z_isinstance (by decide +kernel) (pa_cons (pv 1) (pa_cons (pe_bltn (v := .ty "int") (by rfl) T.z_int (by decide +kernel) rfl) pa_nil)))) (pss_one (ps_ret (pe_and (pe_callB (isi_k (K := K) rfl) (by rfl) T.z_isinstance (by decide +kernel) (pa_cons (pv 0) (pa_cons (pe_bltn (v := .ty "int") (by rfl) T.z_int (by decide +kernel) rfl) pa_nil))) (pe_and (pe_cmpR op_eq (pe_callB (isi_k (K := K) rfl) (by rfl) T.z_isinstance (by decide +kernel) (pa_cons (pv 0) (pa_cons (pe_bltn (v := .ty "bool") (by rfl) T.z_bool (by decide +kernel) rfl) pa_nil))) (pe_callB (isi_k (K := K) rfl) (by rfl) T.z_isinstance (by decide +kernel) (pa_cons (pv 1) (pa_cons (pe_bltn (v := .ty "bool") (by rfl) T.z_bool (by decide +kernel) rfl) pa_nil))) (nomark _)) (pe_one (pe_cmpR op_eq (pv 0) (pv 1) (nomark _))))))) pss_nil)
      (pss_one (ps_ret (pe_and (pe_cmpR op_isBl (pe_callB (isiT_k (K := K) rfl) (by rfl) T.z_isinstance (by decide +kernel) (pa_cons (pv 0) (pa_cons (pe_tup (pa_cons (pe_bltn (v := .ty "bool") (by rfl) T.z_bool (by decide +kernel) rfl) (pa_cons (pe_bltn (v := .ty "int") (by rfl) T.z_int (by decide +kernel) rfl) (pa_cons (pe_bltn (v := .ty "list") (by rfl) T.z_list (by decide +kernel) rfl) (pa_cons (pe_bltn (v := .ty "tuple") (by rfl) T.z_tuple (by decide +kernel) rfl) (pa_cons (pe_bltn (v := .ty "dict") (by rfl) T.z_dict (by decide +kernel) rfl) pa_nil)))))) pa_nil))) pe_bl (nomark _)) (pe_one (pe_cmpR op_eq (pv 0) (pv 1) (nomark _))))))))), ?_⟩
    cases R with
    | non =>
      right
      rw [decSame]
      exact k _ (by ac_rfl)
    | int i =>
      right
      rw [decSame]
      exact k _ (by ac_rfl)
    | bl b =>
      right
      rw [decSame]
      exact k _ (by ac_rfl)
    | str z =>
      right
      rw [decSame]
      exact k _ (by ac_rfl)
    | @lst m a b xs ys h1 h2 hl hz kk =>
      right
      rw [hl]
      refine w_iteSame ?_
      right
      refine w_zipGo (by and_intros) (by and_intros) (w_lcZ hl (fun D i H1 => Same H H1 ∧ H1 D = some (.lst ((List.replicate i true).map V.bl)) ∧ i ≤ xs.length) ?_ ?_ ?_ ?_)
      · intro D hD
        exact ⟨by ac_rfl, upd_same, Nat.zero_le _⟩
      · rintro D i H1 hD ⟨sm, _⟩
        exact ⟨sm _ _ h1, sm _ _ h2⟩
      · rintro D i u v T H1 hD hu hv ⟨sm, e, hi⟩ hT
        have hDT : D ≠ T := ne_of_none e hT
        left
        refine ⟨rfl, ?_⟩
        left
        have smT : Same H (upd H1 T (.tup [u, v])) := sm.trans (Same.new hT)
        refine ⟨u, v, rfl, (kk i u v hu hv).same smT, fun H2 sm2 => ?_⟩
        have hix : i < xs.length := (List.getElem?_eq_some_iff.mp hu).1
        have hDn : H D = none := by
          cases q : H D with
          | none => rfl
          | some o => exact absurd (Same.free (H := H) (by ac_rfl) hD) (by rw [q]; intro z; cases z)
        refine ⟨_, sm2 _ _ (hg_ne hDT e), ?_, fun q o hq => hg_ne (ne_of_none hq hDn) (sm2 _ _ (smT q o hq)), ?_, hix⟩
        · rw [List.length_map, List.length_replicate]
          exact Nat.lt_of_lt_of_le hix (Nat.le_trans hz (by decide))
        · rw [upd_same, List.replicate_succ', List.map_append]; rfl
      · rintro D H1 hD ⟨sm, e, _⟩
        left
        refine ⟨D, _, rfl, SqL.of e, ?_⟩
        have ea : (List.replicate xs.length true).all id = true := by simp
        rw [ea]
        exact k _ sm
    | @tup m a b xs ys h1 h2 hl hz kk =>
      right
      rw [hl]
      refine w_iteSame ?_
      right
      refine w_zipGoT (by and_intros) (by and_intros) (w_lcZT hl (fun D i H1 => Same H H1 ∧ H1 D = some (.lst ((List.replicate i true).map V.bl)) ∧ i ≤ xs.length) ?_ ?_ ?_ ?_)
      · intro D hD
        exact ⟨by ac_rfl, upd_same, Nat.zero_le _⟩
      · rintro D i H1 hD ⟨sm, _⟩
        exact ⟨sm _ _ h1, sm _ _ h2⟩
      · rintro D i u v T H1 hD hu hv ⟨sm, e, hi⟩ hT
        have hDT : D ≠ T := ne_of_none e hT
        left
        refine ⟨rfl, ?_⟩
        left
        have smT : Same H (upd H1 T (.tup [u, v])) := sm.trans (Same.new hT)
        refine ⟨u, v, rfl, (kk i u v hu hv).same smT, fun H2 sm2 => ?_⟩
        have hix : i < xs.length := (List.getElem?_eq_some_iff.mp hu).1
        have hDn : H D = none := by
          cases q : H D with
          | none => rfl
          | some o => exact absurd (Same.free (H := H) (by ac_rfl) hD) (by rw [q]; intro z; cases z)
        refine ⟨_, sm2 _ _ (hg_ne hDT e), ?_, fun q o hq => hg_ne (ne_of_none hq hDn) (sm2 _ _ (smT q o hq)), ?_, hix⟩
        · rw [List.length_map, List.length_replicate]
          exact Nat.lt_of_lt_of_le hix (Nat.le_trans hz (by decide))
        · rw [upd_same, List.replicate_succ', List.map_append]; rfl
      · rintro D H1 hD ⟨sm, e, _⟩
        left
        refine ⟨D, _, rfl, SqL.of e, ?_⟩
        have ea : (List.replicate xs.length true).all id = true := by simp
        rw [ea]
        exact k _ sm
theorem same_all (D : Def K mg "_law_same" s__law_same P__law_same) (T : Txt K mg) : ∀ n, CallOk P w K mg base "_law_same" n (spSame n)
  | 0 => D.call fun f fd F => ⟨fun _ _ _ _ h => h.elim, fun _ _ _ _ _ _ _ _ _ _ _ _ _ h => h.elim⟩
  | n + 1 => D.call fun f fd F => ok_same n F T (same_all D T n)
end

section
variable {P : Program} {w : World} {K : PySem.W.Frag} {mg : Str → Option Value} {base : Heap}
def spLaw (K : PySem.W.Frag) : Sp := fun vs H Q _ => ∃ (a : Addr) (ns : List Int), vs = [.ref a] ∧ SqL K H a (ns.map V.int) ∧ ns.length ≤ 63 ∧ ∀ H', Q (.bl true) H'
theorem StrAt.fr2 {H H' : Hp} {st ls : Addr} {n : Nat} (h : StrAt H st ls n) (e : ∀ b o, b = st ∨ b = ls → H b = some o → H' b = some o) : StrAt H' st ls n :=
  let ⟨hne, xs, x, c, m, h1, h2, r⟩ := h
  ⟨hne, xs, x, c, m, e _ _ (.inl rfl) h1, e _ _ (.inr rfl) h2, r⟩
theorem cut_to (xs : List Int) (t : Int) (h0 : 0 ≤ t) : cutV (xs.map V.int) none (some t) = (xs.take t.toNat).map V.int := by
  obtain ⟨a, rfl⟩ := Int.eq_ofNat_of_zero_le h0
  unfold cutV
  rw [HT.sIx_nat, HT.sIx_none, List.length_map, Int.toNat_natCast, List.map_take, List.drop_zero, Nat.sub_zero]
  rcases Nat.le_total a xs.length with h | h
  · rw [Nat.min_eq_left h]
  · rw [Nat.min_eq_right h, List.take_of_length_le (by rw [List.length_map]; exact Nat.le_refl _), List.take_of_length_le (by rw [List.length_map]; exact h)]
theorem cut_from (xs : List Int) (t : Int) (h0 : 0 ≤ t) (h1 : t ≤ xs.length) : cutV (xs.map V.int) (some t) none = (xs.drop t.toNat).map V.int := by
  obtain ⟨a, rfl⟩ := Int.eq_ofNat_of_zero_le h0
  unfold cutV
  rw [HT.sIx_nat, HT.sIx_none, List.length_map, Int.toNat_natCast, List.map_drop, Nat.min_eq_left (by omega)]
  exact List.take_of_length_le (by rw [List.length_drop, List.length_map]; exact Nat.le_refl _)
theorem moved_len (xs : List Int) (t s m : Int) (h0 : 0 ≤ t) (h1 : t + m ≤ xs.length) (h2 : 0 ≤ s) (h3 : s + m ≤ xs.length) (h4 : 0 ≤ m) : (moved xs t s m).length = xs.length := by
  unfold moved
  rw [List.length_append, List.length_append, List.length_take, List.length_take, List.length_drop, List.length_drop]
  omega
theorem rep_ints {H : Hp} {a b : Addr} {xs : List Int} (h1 : H a = some (.lst (xs.map V.int))) (h2 : H b = some (.lst (xs.map V.int))) (hz : xs.length ≤ 1000) : Rep H 2 (.ref a) (.ref b) :=
  .lst h1 h2 rfl (by rw [List.length_map]; omega) fun i x y hx hy => by
    rw [hx] at hy
    cases hy
    obtain ⟨z, rfl, _⟩ := get_map hx
    exact .int z
/-- if not same(memory.octets(), rows): return False -/
theorem tail_ok {C p l r : Addr} {xs : List Int} {D : Ends} {σ : St} {H : Hp} (h4 : σ[4]? = some (some (.ref r))) (h5 : σ[5]? = some (some (.ref p))) (hM : MemAt H C p l xs) (hr : H r = some (.lst (xs.map V.int))) (hz : xs.length ≤ 1000) (k : ∀ H', Same H H' → D.nx σ H') :
    tIfS (tNot (tB (tCall (spSame 3) [] E0 (tCons (tMeth C "octets" (spOctsM C) [] E0 (tVar 5) tNil) (tCons (tVar 4) tNil))))) (tRet (tC (.bl false))) tNext D σ H := by
  obtain ⟨hpl, dx, hp, hl⟩ := id hM
  refine w_if (w_not (w_B (w_call (w_cons (w_meth (w_var h5 (w_methGo hp (lk_no (by decide +kernel)) (w_nil ?_))))))))
  refine ⟨p, l, xs, rfl, hM, fun q hq => ?_⟩
  refine w_cons (w_var h4 (w_nil ?_))
  refine ⟨_, _, rfl, rep_ints upd_same (hg_new hq hr) hz, fun H' sm => ?_⟩
  left
  exact k _ ((Same.new hq).trans sm)
theorem ok_law {f C : Addr} {fd : FuncData} (F : Fun K "law" "law" s_law f fd) (T : Txt K mg) (c_Memory : Cls K C)
    (D__law_draw : CallOk P w K mg base "_law_draw" 1 spDraw) (D__law_pick : CallOk P w K mg base "_law_pick" 3 spPick) (D__law_some_octets : CallOk P w K mg base "_law_some_octets" 5 spOcts) (D__law_place : CallOk P w K mg base "_law_place" 5 spPlace)
    (D__law_moved : CallOk P w K mg base "_law_moved" 7 (spMoved C)) (D__law_same : CallOk P w K mg base "_law_same" 3 (spSame 3)) (D_Memory : MakeOk P w K mg base "Memory" C 7 (spMem C)) (D_Memory_octets : MethOk P w K mg base C "octets" 1 (spOctsM C)) : FnOk P w K mg base CX0 12 f fd P_law (spLaw K) := by
  refine F.ok sc_law (fun vs H Q E h => ?_) (fun cdv A outer s H vs Q E hr h => ?_)
  · obtain ⟨_, _, rfl, _⟩ := h
    rfl
  · obtain ⟨a, ns, rfl, hS, hlen, k⟩ := h
    refine ⟨_, (pss_cons (ps_set (i := 1) sc_law.nd rfl (Or.inl rfl) (pe_lst (pa_cons (pe_callTy (list_k (K := K) rfl) (by rfl) T.z_list (by decide +kernel) (pa_cons (pv 0) pa_nil)) (pa_cons pe_int (pa_cons pe_int (pa_cons pe_int pa_nil))))))
      (pss_cons (ps_for PassesOwn.never rfl (pi_range1 (by rfl) T.z_range (pa_cons pe_int pa_nil)) (pg_name (i := 2) sc_law.nd rfl (Or.inl rfl)) (pss_cons (ps_set (i := 3) sc_law.nd rfl (Or.inr rfl) (pe_callD D__law_pick (hr.mono (by decide)) (by rfl) (pa_cons (pv 1) (pa_cons (pe_lst (pa_cons pe_int (pa_cons pe_int (pa_cons pe_int (pa_cons pe_int (pa_cons pe_int (pa_cons (pe_callD D__law_draw (hr.mono (by decide)) (by rfl) (pa_cons (pv 1) (pa_cons pe_int pa_nil))) pa_nil))))))) pa_nil))))
      (pss_cons (ps_set (i := 4) sc_law.nd rfl (Or.inl rfl) (pe_callD D__law_some_octets (hr.mono (by decide)) (by rfl) (pa_cons (pv 1) (pa_cons (pv 3) pa_nil))))
      (pss_cons (ps_set (i := 5) sc_law.nd rfl (Or.inl rfl) (pe_makeD D_Memory (hr.mono (by decide)) (by rfl) (pa_cons (pv 4) pa_nil)))
      (pss_one (ps_for PassesOwn.never rfl (pi_range1 (by rfl) T.z_range (pa_cons pe_int pa_nil)) (pg_name (i := 6) sc_law.nd rfl (Or.inl rfl)) (pss_cons (ps_set (i := 7) sc_law.nd rfl (Or.inr rfl) (pe_callD D__law_pick (hr.mono (by decide)) (by rfl) (pa_cons (pv 1) (pa_cons (pe_lst (pa_cons pe_int (pa_cons pe_int (pa_cons pe_int (pa_cons pe_int (pa_cons (pv 3) (pa_cons (pe_op op_add (pv 3) pe_int) (pa_cons (pe_callD D__law_draw (hr.mono (by decide)) (by rfl) (pa_cons (pv 1) (pa_cons (pe_op op_add (pv 3) pe_int) pa_nil))) pa_nil)))))))) pa_nil))))
      (pss_cons (ps_set (i := 8) sc_law.nd rfl (Or.inl rfl) (pe_callD D__law_place (hr.mono (by decide)) (by rfl) (pa_cons (pv 1) (pa_cons (pv 7) (pa_cons (pv 3) pa_nil)))))
      (pss_cons (ps_set (i := 9) sc_law.nd rfl (Or.inl rfl) (pe_callD D__law_place (hr.mono (by decide)) (by rfl) (pa_cons (pv 1) (pa_cons (pv 7) (pa_cons (pv 3) pa_nil)))))
      (pss_cons (ps_up (ps_if (pt_cmpR op_eq (pe_callD D__law_draw (hr.mono (by decide)) (by rfl) (pa_cons (pv 1) (pa_cons pe_int pa_nil))) pe_int (nomark _)) (pss_one (ps_set (i := 9) sc_law.nd rfl (Or.inl rfl) (pe_callB (cq_min rfl) (by rfl) T.z_min (by decide +kernel) (pa_cons (pe_callB (cq_max rfl) (by rfl) T.z_max (by decide +kernel) (pa_cons pe_int (pa_cons (pe_op op_sub (pe_op op_add (pv 8) (pe_callD D__law_draw (hr.mono (by decide)) (by rfl) (pa_cons (pv 1) (pa_cons pe_int pa_nil)))) pe_int) pa_nil))) (pa_cons (pe_op op_mul pe_int (pe_op op_pow pe_int pe_int)) pa_nil))))) pss_nil))
      (pss_cons (ps_setLc (i := 10) (own := [("_law_place_here", 13)]) rfl sc_law.nd rfl rfl (sw_true rfl rfl rfl (by decide +kernel)) (itup_k (K := K) rfl (pe_tup (pa_cons (pv 8) (pa_cons (pv 9) pa_nil)))) (blkOk_by (N := N_law) (sc := defScope s_law) (by decide +kernel)) (fun _ _ _ _ _ => (pg_name (i := 13) sc_law.nd rfl (Or.inl rfl))) (fun _ _ _ _ _ => (pts_one (PW.pt (pw_or (pt_cmpR op_lt (pv 13) pe_int (nomark _)) (pw_or1 (pt_cmpR op_gt (pe_op op_add (pv 13) (pv 7)) (pv 3) (nomark _))))))) (fun _ _ _ _ _ => (pv 13)))
      (pss_cons (ps_set (i := 11) sc_law.nd rfl (Or.inl rfl) (pe_ifExp (pt_cmpR (eqD_k (K := K) hr.units rfl) (pv 10) (pe_lst pa_nil) (nomark _)) (pe_tup (pa_cons pe_str (pa_cons pe_non pa_nil))) (pe_tup (pa_cons pe_str (pa_cons (pe_ix (ixL_k (K := K) rfl) (pv 10) pe_int (fun _ _ => rfl)) pa_nil)))))
      (pss_cons (ps_if (pt_not (pt_val (pe_callD D__law_same (hr.mono (by decide)) (by rfl) (pa_cons (pe_callD D__law_moved (hr.mono (by decide)) (by rfl) (pa_cons (pv 5) (pa_cons (pv 8) (pa_cons (pv 9) (pa_cons (pv 7) pa_nil))))) (pa_cons (pv 11) pa_nil))))) (pss_one (ps_ret pe_bl)) pss_nil)
      (pss_cons (ps_up (ps_if (pt_cmpR (eqD_k (K := K) hr.units rfl) (pv 10) (pe_lst pa_nil) (nomark _)) (pss_cons (ps_set (i := 12) sc_law.nd rfl (Or.inl rfl) (pe_slice (slL_k (K := K) rfl) (pv 4) (po_some (pv 9)) (po_some (pe_op op_add (pv 9) (pv 7)))))
      (pss_one (ps_set (i := 4) sc_law.nd rfl (Or.inl rfl) (pe_op op_cat (pe_op op_cat (pe_slice (slL_k (K := K) rfl) (pv 4) po_none (po_some (pv 8))) (pv 12)) (pe_slice (slL_k (K := K) rfl) (pv 4) (po_some (pe_op op_add (pv 8) (pv 7))) po_none))))) pss_nil))
      (pss_one (ps_if (pt_not (pt_val (pe_callD D__law_same (hr.mono (by decide)) (by rfl) (pa_cons (pe_meth0D (pv 5) c_Memory D_Memory_octets (hr.mono (by decide))) (pa_cons (pv 4) pa_nil))))) (pss_one (ps_ret pe_bl)) pss_nil))))))))))))))))
      (pss_one (ps_ret pe_bl)))), ?_⟩
    left
    refine ⟨a, _, rfl, .inl hS, fun ls hls => ?_⟩
    left
    refine ⟨by show 4 ≤ sizeLine; decide, fun st hst => ?_⟩
    left
    have hne : st ≠ ls := (ne_of_none upd_same hst).symm
    have hS0 : StrAt (upd (upd H ls (.lst (ns.map V.int))) st (.lst [.ref ls, .int 0, .int 0, .int 0])) st ls 0 := ⟨hne, ns, 0, 0, 0, upd_same, hg_ne hne.symm upd_same, by omega, by omega, by omega, by omega, by omega⟩
    generalize upd (upd H ls (.lst (ns.map V.int))) st (.lst [.ref ls, .int 0, .int 0, .int 0]) = H0 at hS0
    refine w_rngGo (m := 4) (by omega) (w_forR (fun i σ H1 => StrAt H1 st ls (300 * i) ∧ ∃ u2 u3 u4 u5 u6 u7 u8 u9 u10 u11 u12 u13, σ = [some (.ref a), some (.ref st), u2, u3, u4, u5, u6, u7, u8, u9, u10, u11, u12, u13]) ⟨hS0, none, none, none, none, none, none, none, none, none, none, none, none, rfl⟩ ?_ ?_)
    · clear hS0 hS hls hst H0
      rintro i σ H0 hi ⟨hs, u2, u3, u4, u5, u6, u7, u8, u9, u10, u11, u12, u13, rfl⟩
      left
      refine ⟨st, ls, _, _, rfl, hs, by omega, by omega, by omega, fun v H1 v0 v1 hs1 _ => ?_⟩
      left
      refine ⟨by show 6 ≤ sizeLine; decide, fun q hq => ?_⟩
      obtain ⟨q1, q2⟩ := hs1.nest hq
      left
      refine ⟨st, ls, _, _, _, rfl, hs1.new hq, by omega, upd_same, q1, q2, by show 0 < 6; decide, by show 6 < 1000000; decide, fun y H2 hy hs2 _ => ?_⟩
      obtain ⟨m, rfl, hm⟩ : ∃ m : Nat, y = .int (m : Nat) ∧ m < 31 := by
        simp only [List.mem_cons, List.not_mem_nil, or_false] at hy
        rcases hy with rfl | rfl | rfl | rfl | rfl | rfl
        · exact ⟨0, rfl, by omega⟩
        · exact ⟨1, rfl, by omega⟩
        · exact ⟨2, rfl, by omega⟩
        · exact ⟨5, rfl, by omega⟩
        · exact ⟨30, rfl, by omega⟩
        · obtain ⟨m, rfl⟩ := Int.eq_ofNat_of_zero_le v0
          exact ⟨m, rfl, by omega⟩
      clear hy hq q1 q2 hs1 v0 v1
      left
      refine ⟨st, ls, _, m, rfl, hs2, by omega, by omega, fun r xs H3 hx hl hs3 _ hr0 hr1 => ?_⟩
      obtain ⟨r1, r2⟩ := hs2.nest hr0
      left
      intro p dx hp hdx hne2
      have hpr : p ≠ r := (ne_of_none hr1 hp).symm
      have hdr : dx ≠ r := (ne_of_none hr1 hdx).symm
      obtain ⟨p1, p2⟩ := hs3.nest hp
      refine ⟨p, r, dx, xs, rfl, upd_same, hg_ne hpr.symm (hg_ne hdr.symm hr1), hx, fun l H4 hl0 hM fr4 => ⟨rfl, ?_⟩⟩
      have hlp : l ≠ p := fun z => by rw [z, upd_same] at hl0; cases hl0
      have hl3 : H3 l = none := by
        rw [upd_ne hlp] at hl0
        by_cases z : l = dx
        · rw [z, upd_same] at hl0; cases hl0
        · rw [upd_ne z] at hl0; exact hl0
      obtain ⟨l1, l2⟩ := hs3.nest hl3
      have hs4 : StrAt H4 st ls (300 * i + 62) := (hs3.fr fun b o hb => fr4 b o (ne_of_none hb hp) (hg_ne (ne_of_none hb hp) (hg_new hdx hb))).up (by omega)
      left
      have hr4 : H4 r = some (.lst (xs.map V.int)) := fr4 r _ hpr.symm (hg_ne hpr.symm (hg_ne hdr.symm hr1))
      have hrl : r ≠ l := ne_of_none hr1 hl3
      refine w_rngGo (m := 16) (by omega) (w_forR (fun j σ H5 => ∃ (r : Addr) (xs : List Int), StrAt H5 st ls (300 * i + 62 + 12 * j) ∧ MemAt H5 C p l xs ∧ H5 r = some (.lst (xs.map V.int)) ∧ xs.length = m ∧ r ≠ l ∧ r ≠ st ∧ r ≠ ls ∧
        ∃ u2 u6 u7 u8 u9 u10 u11 u12 u13, σ = [some (.ref a), some (.ref st), u2, some (.int (m : Nat)), some (.ref r), some (.ref p), u6, u7, u8, u9, u10, u11, u12, u13]) ⟨r, xs, hs4, hM, hr4, hl, hrl, r1, r2, _, _, _, _, _, _, _, _, _, rfl⟩ ?_ ?_)
      · clear hr4 hrl hs4 hM hl0 hlp hl3 fr4 hpr hdr r1 r2 hr1 hr0 hl hx
        clear r xs
        rintro j σ H5 hj ⟨r, xs, hs, hM, hr, hl, hrl, r1, r2, u2, u6, u7, u8, u9, u10, u11, u12, u13, rfl⟩
        left
        refine ⟨st, ls, _, _, rfl, hs, by omega, by omega, by omega, fun v H1 v0 v1 hs1 fr1 => ?_⟩
        left
        refine ⟨by show 7 ≤ sizeLine; decide, fun q hq => ?_⟩
        obtain ⟨q1, q2⟩ := hs1.nest hq
        left
        refine ⟨st, ls, _, _, _, rfl, hs1.new hq, by omega, upd_same, q1, q2, by show 0 < 7; decide, by show 7 < 1000000; decide, fun y H2 hy hs2 fr2 => ?_⟩
        obtain ⟨k, rfl, hk⟩ : ∃ k : Nat, y = .int (k : Nat) ∧ k < 40 := by
          simp only [List.mem_cons, List.not_mem_nil, or_false] at hy
          rcases hy with rfl | rfl | rfl | rfl | rfl | rfl | rfl
          · exact ⟨0, rfl, by omega⟩
          · exact ⟨1, rfl, by omega⟩
          · exact ⟨2, rfl, by omega⟩
          · exact ⟨3, rfl, by omega⟩
          · exact ⟨m, rfl, by omega⟩
          · exact ⟨m + 1, rfl, by omega⟩
          · obtain ⟨m, rfl⟩ := Int.eq_ofNat_of_zero_le v0
            exact ⟨m, rfl, by omega⟩
        have fr : Fr st ls H5 H2 := fr1.trans ((Fr.new hq).trans fr2)
        clear hy hq q1 q2 hs1 v0 v1 fr1 fr2
        left
        refine ⟨st, ls, _, k, m, rfl, hs2, by omega, by omega, by omega, fun t H3 t0 t1 hs3 fr3 => ?_⟩
        left
        refine ⟨st, ls, _, k, m, rfl, hs3, by omega, by omega, by omega, fun so H4 s0 s1 hs4 fr4 => ?_⟩
        left
        refine w_up (fun σ H6 => ∃ so : Int, StrAt H6 st ls (300 * i + 62 + 12 * j + 10) ∧ Fr st ls H4 H6 ∧ σ = [some (.ref a), some (.ref st), u2, some (.int (m : Nat)), some (.ref r), some (.ref p), some (.int (j : Nat)), some (.int (k : Nat)), some (.int t), some (.int so), u10, u11, u12, u13]) ?_ ?_
        · have fr := (fr.trans fr3).trans fr4
          clear s0 s1 hs4 hs3 hs2 fr3
          rintro σ H6 ⟨so, hs6, fr6, rfl⟩
          have fr := fr.trans fr6
          clear fr4 fr6
          obtain ⟨hpl, dx, hp, hLl⟩ := hM
          have hp6 := fr p _ p1 p2 hp
          have hl6 := fr l _ l1 l2 hLl
          have hr6 := fr r _ r1 r2 hr
          left
          refine ⟨by show 2 ≤ sizeLine; decide, fun q hq => ?_⟩
          left
          refine w_tupGo upd_same (w_lcT (xs := [.int t, .int so]) (fun D i H7 => Same H6 H7 ∧ H7 q = some (.tup [.int t, .int so]) ∧ H7 D = some (.lst (((([t, so].take i).filter fun z => decide (z < 0 ∨ z + (k : Int) > (m : Int)))).map V.int))) ?_ ?_ ?_ ?_)
          · intro D hD
            have hDq : q ≠ D := ne_of_none upd_same hD
            exact ⟨by ac_rfl, hg_ne hDq upd_same, upd_same⟩
          · rintro D i H7 _ _ ⟨_, e, _⟩
            exact e
          · rintro D i x H7 hD hx ⟨sm, eq, e⟩
            have hDn : H6 D = none := (Same.new hq).free hD
            have hDq : q ≠ D := ne_of_none upd_same hD
            have fin : ∀ (z : Int) (zs : List Int), H7 D = some (.lst (zs.map V.int)) → Same H6 (upd H7 D (.lst (zs.map V.int ++ [.int z]))) ∧ upd H7 D (.lst (zs.map V.int ++ [.int z])) q = some (.tup [.int t, .int so]) ∧ upd H7 D (.lst (zs.map V.int ++ [.int z])) D = some (.lst ((zs ++ [z]).map V.int)) := fun z zs _ =>
              ⟨fun b o hb => hg_ne (ne_of_none hb hDn) (sm b o hb), hg_ne hDq eq, by rw [upd_same, List.map_append]; rfl⟩
            have one : ∃ z : Int, x = .int z ∧ ([t, so].take (i + 1)).filter (fun z => decide (z < 0 ∨ z + (k : Int) > (m : Int))) = ([t, so].take i).filter (fun z => decide (z < 0 ∨ z + (k : Int) > (m : Int))) ++ (if z < 0 ∨ z + (k : Int) > (m : Int) then [z] else []) ∧ (([t, so].take i).filter (fun z => decide (z < 0 ∨ z + (k : Int) > (m : Int)))).length ≤ 2 := by
              match i, hx with
              | 0, hx => cases hx; exact ⟨t, rfl, by simp only [List.take, List.filter_cons, List.filter_nil]; split <;> simp_all, by simp⟩
              | 1, hx => cases hx; exact ⟨so, rfl, by simp only [List.take, List.filter_cons, List.filter_nil]; split <;> simp_all, by simp only [List.take, List.filter_cons, List.filter_nil]; split <;> simp⟩
              | i + 2, hx => simp at hx
            obtain ⟨z, rfl, hf, hlen2⟩ := one
            generalize ([t, so].take i).filter (fun z => decide (z < 0 ∨ z + (k : Int) > (m : Int))) = zs at hf e hlen2
            rw [hf]
            have hzs : (zs.map V.int).length < sizeLine := by rw [List.length_map]; exact Nat.lt_of_le_of_lt hlen2 (by decide)
            left
            refine ⟨rfl, ?_⟩
            left
            refine w_ite (fun c => ?_) (fun c => ?_)
            · left
              rw [if_pos (.inl c)]
              exact ⟨_, e, hzs, fin z zs e⟩
            · left
              refine w_ite (fun c' => ?_) (fun c' => ?_)
              · left
                rw [if_pos (.inr c')]
                exact ⟨_, e, hzs, fin z zs e⟩
              · rw [if_neg (by omega), List.append_nil]
                exact ⟨sm, eq, e⟩
          · rintro D H7 hD ⟨sm, _, e⟩
            have hDn : H6 D = none := (Same.new hq).free hD
            have eD : H7 D = some (.lst (([t, so].filter fun z => decide (z < 0 ∨ z + (k : Int) > (m : Int))).map V.int)) := e
            clear e
            have hM7 : MemAt H7 C p l xs := ⟨hpl, dx, sm _ _ hp6, sm _ _ hl6⟩
            have hr7 := sm _ _ hr6
            have hs7 := hs6.fr sm
            have hcase : (([t, so].filter fun z => decide (z < 0 ∨ z + (k : Int) > (m : Int))) = [] ∧ (0 ≤ t ∧ t + k ≤ xs.length) ∧ (0 ≤ so ∧ so + k ≤ xs.length)) ∨ (∃ z zs, ([t, so].filter fun z => decide (z < 0 ∨ z + (k : Int) > (m : Int))) = z :: zs ∧ ((¬ (0 ≤ t ∧ t + k ≤ xs.length) ∧ z = t) ∨ ((0 ≤ t ∧ t + k ≤ xs.length) ∧ ¬ (0 ≤ so ∧ so + k ≤ xs.length) ∧ z = so))) := by
              rw [hl]
              by_cases c1 : (0 ≤ t ∧ t + (k : Int) ≤ (m : Int))
              · by_cases c2 : (0 ≤ so ∧ so + (k : Int) ≤ (m : Int))
                · refine .inl ⟨?_, c1, c2⟩
                  rw [List.filter_cons, if_neg (by simp; omega), List.filter_cons, if_neg (by simp; omega)]
                  rfl
                · refine .inr ⟨so, [], ?_, .inr ⟨c1, c2, rfl⟩⟩
                  rw [List.filter_cons, if_neg (by simp; omega), List.filter_cons, if_pos (by simp; omega)]
                  rfl
              · refine .inr ⟨t, [so].filter (fun z => decide (z < 0 ∨ z + (k : Int) > (m : Int))), ?_, .inl ⟨c1, rfl⟩⟩
                rw [List.filter_cons, if_pos (by simp; omega)]
            generalize ([t, so].filter fun z => decide (z < 0 ∨ z + (k : Int) > (m : Int))) = bz at eD hcase
            have hlD : l ≠ D := ne_of_none (hg_new hq hl6) hD
            clear hs6 fr hD hDn hq
            rcases hcase with ⟨rfl, g1, g2⟩ | ⟨z, zs, rfl, hz⟩
            · left
              refine ⟨by decide, fun q2 hq2 => ?_⟩
              refine ⟨_, _, .lst (SqL.of (hg_new hq2 eD)) (Dp.ints []), .lst (SqL.of upd_same) .nil, shaped_ints [], by rfl, ?_⟩
              left
              refine iteT ?_
              left
              refine ⟨by show 2 ≤ sizeLine; decide, fun d hd => ?_⟩
              left
              have hM8 : MemAt (upd (upd H7 q2 (.lst [])) d (.tup [.str "told", .non])) C p l xs := ⟨hpl, dx, hg_new hd (hg_new hq2 (sm _ _ hp6)), hg_new hd (hg_new hq2 (sm _ _ hl6))⟩
              have hdl : d ≠ l := (ne_of_none (hg_new hq2 (sm _ _ hl6)) hd).symm
              refine ⟨p, l, xs, t, so, k, rfl, hM8, by omega, by omega, fun no => absurd g1 no, fun _ no => absurd g2 no, fun _ _ q3 H8 hq3 hM9 fr9 eq3 => ?_⟩
              left
              refine ⟨_, _, rfl, .tup eq3 (fr9 d _ hdl upd_same) rfl (by show 2 ≤ 1000000; decide) (fun i x y hx hy => by
                rw [hx] at hy
                cases hy
                match i, hx with
                | 0, hx => cases hx; exact .str _
                | 1, hx => cases hx; exact .non
                | i + 2, hx => simp at hx), fun H9 sm9 => ?_⟩
              left
              have hs8 : StrAt H8 st ls (300 * i + 62 + 12 * j + 10) := hs7.fr2 fun b o hb h => fr9 b o (by rcases hb with rfl | rfl; exact l1.symm; exact l2.symm) (hg_new hd (hg_new hq2 h))
              have hr8 : H8 r = some (.lst (xs.map V.int)) := fr9 r _ hrl (hg_new hd (hg_new hq2 hr7))
              have e8 : H8 D = some (.lst ([] : List V)) := fr9 D _ hlD.symm (hg_new hd (hg_new hq2 eD))
              have hs9 := hs8.fr sm9
              have hr9 := sm9 _ _ hr8
              have e9 := sm9 _ _ e8
              have hM9' : MemAt H9 C p l (moved xs t so k) := by
                obtain ⟨_, dx', x1, x2⟩ := hM9
                exact ⟨hpl, dx', sm9 _ _ x1, sm9 _ _ x2⟩
              clear hs8 hr8 e8 hM9 sm9 fr9 hM8 hd hdl hq2 eq3 hq3
              refine w_up (fun σ HA => ∃ (r : Addr) (xs : List Int), StrAt HA st ls (300 * i + 62 + 12 * j + 10) ∧ MemAt HA C p l xs ∧ HA r = some (.lst (xs.map V.int)) ∧ xs.length = m ∧ r ≠ l ∧ r ≠ st ∧ r ≠ ls ∧ ∃ u2 u6 u7 u8 u9 u10 u11 u12 u13, σ = [some (.ref a), some (.ref st), u2, some (.int (m : Nat)), some (.ref r), some (.ref p), u6, u7, u8, u9, u10, u11, u12, u13]) ?_ ?_
              · rintro σ HA ⟨r, xs, hsA, hMA, hrA, hlA, rl, rst, rls, u2, u6, u7, u8, u9, u10, u11, u12, u13, rfl⟩
                refine tail_ok rfl rfl hMA hrA (by omega) fun HB smB => ?_
                obtain ⟨_, dx', x1, x2⟩ := hMA
                exact ⟨r, xs, (hsA.fr smB).up (by omega), ⟨hpl, dx', smB _ _ x1, smB _ _ x2⟩, smB _ _ hrA, hlA, rl, rst, rls, _, _, _, _, _, _, _, _, _, rfl⟩
              · left
                refine ⟨by decide, fun q4 hq4 => ?_⟩
                refine ⟨_, _, .lst (SqL.of (hg_new hq4 e9)) (Dp.ints []), .lst (SqL.of upd_same) .nil, shaped_ints [], by rfl, ?_⟩
                left
                refine iteT ?_
                left
                intro q5 hq5
                rw [cut_map xs so k g2.1 (by omega) g2.2]
                left
                intro q6 hq6
                rw [cut_to xs t g1.1]
                left
                refine w_cat upd_same (hg_new hq6 upd_same) ?_ fun q7 hq7 => ?_
                · simp only [List.length_map, List.length_take, List.length_drop]
                  exact Nat.le_trans (by omega : _ ≤ 1000) (by decide)
                left
                intro q8 hq8
                rw [cut_from xs (t + k) (by omega) (by omega)]
                left
                refine w_cat (hg_new hq8 upd_same) upd_same ?_ fun q9 hq9 => ?_
                · simp only [List.length_append, List.length_map, List.length_take, List.length_drop]
                  exact Nat.le_trans (by omega : _ ≤ 1000) (by decide)
                have smN : Same H9 (upd (upd (upd (upd (upd (upd H9 q4 (.lst [])) q5 (.lst ((List.take (k : Int).toNat (List.drop so.toNat xs)).map V.int))) q6 (.lst ((List.take t.toNat xs).map V.int))) q7 (.lst ((List.take t.toNat xs).map V.int ++ (List.take (k : Int).toNat (List.drop so.toNat xs)).map V.int))) q8 (.lst ((List.drop (t + k).toNat xs).map V.int))) q9 (.lst ((List.take t.toNat xs).map V.int ++ (List.take (k : Int).toNat (List.drop so.toNat xs)).map V.int ++ (List.drop (t + k).toNat xs).map V.int))) := by ac_rfl
                obtain ⟨n1, n2⟩ := (hs9.fr (fun b o h => hg_new hq8 (hg_new hq7 (hg_new hq6 (hg_new hq5 (hg_new hq4 h)))))).nest hq9
                obtain ⟨_, dx', x1, x2⟩ := id hM9'
                have n3 : q9 ≠ l := (ne_of_none (hg_new hq8 (hg_new hq7 (hg_new hq6 (hg_new hq5 (hg_new hq4 x2))))) hq9).symm
                refine ⟨q9, moved xs t so k, hs9.fr smN, ⟨hpl, dx', smN _ _ x1, smN _ _ x2⟩, ?_, (moved_len xs t so k g1.1 g1.2 g2.1 g2.2 (by omega)).trans hl, n3, n1, n2, _, _, _, _, _, _, _, _, _, rfl⟩
                rw [upd_same]
                unfold moved
                simp only [List.map_append]
            · left
              refine ⟨by decide, fun q2 hq2 => ?_⟩
              refine ⟨_, _, .lst (SqL.of (hg_new hq2 eD)) (Dp.ints (z :: zs)), .lst (SqL.of upd_same) .nil, shaped_ints (z :: zs), by rfl, ?_⟩
              left
              refine iteF ?_
              left
              refine w_ixL (hg_new hq2 eD) (atI_nat (j := 0) rfl) ?_
              left
              refine ⟨by show 2 ≤ sizeLine; decide, fun d hd => ?_⟩
              left
              have sm8 : Same H7 (upd (upd H7 q2 (.lst [])) d (.tup [.str "address", .int z])) := by ac_rfl
              have hM8 : MemAt (upd (upd H7 q2 (.lst [])) d (.tup [.str "address", .int z])) C p l xs := ⟨hpl, dx, sm8 _ _ (sm _ _ hp6), sm8 _ _ (sm _ _ hl6)⟩
              have go : ∀ q3 H8, Same (upd (upd H7 q2 (.lst [])) d (.tup [.str "address", .int z])) H8 → H8 q3 = some (.tup [.str "address", .int z]) → ∀ R : VK, (∀ H9, Same H8 H9 → R (.bl true) H9) → spSame 3 [.ref q3, .ref d] H8 R E0 := fun q3 H8 s8 e3 R kk =>
                ⟨_, _, rfl, .tup e3 (s8 d _ upd_same) rfl (by show 2 ≤ 1000000; decide) (fun i x y hx hy => by
                  rw [hx] at hy
                  cases hy
                  match i, hx with
                  | 0, hx => cases hx; exact .str _
                  | 1, hx => cases hx; exact .int _
                  | i + 2, hx => simp at hx), kk⟩
              refine ⟨p, l, xs, t, so, k, rfl, hM8, by omega, by omega, fun b1 q3 H8 hq3 s8 e3 => ?_, fun b1 b2 q3 H8 hq3 s8 e3 => ?_, fun b1 b2 => ?_⟩
              · obtain rfl : z = t := by
                  rcases hz with ⟨_, rfl⟩ | ⟨b, _⟩
                  · rfl
                  · exact absurd b b1
                left
                refine go q3 H8 s8 e3 _ fun H9 s9 => ?_
                have sm9 := (sm8.trans s8).trans s9
                left
                refine w_up (fun σ HA => ∃ (r : Addr) (xs : List Int), StrAt HA st ls (300 * i + 62 + 12 * j + 10) ∧ MemAt HA C p l xs ∧ HA r = some (.lst (xs.map V.int)) ∧ xs.length = m ∧ r ≠ l ∧ r ≠ st ∧ r ≠ ls ∧ ∃ u2 u6 u7 u8 u9 u10 u11 u12 u13, σ = [some (.ref a), some (.ref st), u2, some (.int (m : Nat)), some (.ref r), some (.ref p), u6, u7, u8, u9, u10, u11, u12, u13]) ?_ ?_
                · rintro σ HA ⟨r, xs, hsA, hMA, hrA, hlA, rl, rst, rls, u2, u6, u7, u8, u9, u10, u11, u12, u13, rfl⟩
                  refine tail_ok rfl rfl hMA hrA (by omega) fun HB smB => ?_
                  obtain ⟨_, dx', x1, x2⟩ := hMA
                  exact ⟨r, xs, (hsA.fr smB).up (by omega), ⟨hpl, dx', smB _ _ x1, smB _ _ x2⟩, smB _ _ hrA, hlA, rl, rst, rls, _, _, _, _, _, _, _, _, _, rfl⟩
                · left
                  refine ⟨by decide, fun q4 hq4 => ?_⟩
                  have sA := sm9.trans (Same.new (o := .lst []) hq4)
                  refine ⟨_, _, .lst (SqL.of (sA _ _ eD)) (Dp.ints (_ :: zs)), .lst (SqL.of upd_same) .nil, shaped_ints (_ :: zs), by rfl, ?_⟩
                  left
                  refine iteF ?_
                  left
                  exact ⟨r, xs, hs7.fr sA, ⟨hpl, dx, sA _ _ (sm _ _ hp6), sA _ _ (sm _ _ hl6)⟩, sA _ _ hr7, hl, hrl, r1, r2, _, _, _, _, _, _, _, _, _, rfl⟩
              · obtain rfl : z = so := by
                  rcases hz with ⟨b, _⟩ | ⟨_, _, rfl⟩
                  · exact absurd b1 b
                  · rfl
                left
                refine go q3 H8 s8 e3 _ fun H9 s9 => ?_
                have sm9 := (sm8.trans s8).trans s9
                left
                refine w_up (fun σ HA => ∃ (r : Addr) (xs : List Int), StrAt HA st ls (300 * i + 62 + 12 * j + 10) ∧ MemAt HA C p l xs ∧ HA r = some (.lst (xs.map V.int)) ∧ xs.length = m ∧ r ≠ l ∧ r ≠ st ∧ r ≠ ls ∧ ∃ u2 u6 u7 u8 u9 u10 u11 u12 u13, σ = [some (.ref a), some (.ref st), u2, some (.int (m : Nat)), some (.ref r), some (.ref p), u6, u7, u8, u9, u10, u11, u12, u13]) ?_ ?_
                · rintro σ HA ⟨r, xs, hsA, hMA, hrA, hlA, rl, rst, rls, u2, u6, u7, u8, u9, u10, u11, u12, u13, rfl⟩
                  refine tail_ok rfl rfl hMA hrA (by omega) fun HB smB => ?_
                  obtain ⟨_, dx', x1, x2⟩ := hMA
                  exact ⟨r, xs, (hsA.fr smB).up (by omega), ⟨hpl, dx', smB _ _ x1, smB _ _ x2⟩, smB _ _ hrA, hlA, rl, rst, rls, _, _, _, _, _, _, _, _, _, rfl⟩
                · left
                  refine ⟨by decide, fun q4 hq4 => ?_⟩
                  have sA := sm9.trans (Same.new (o := .lst []) hq4)
                  refine ⟨_, _, .lst (SqL.of (sA _ _ eD)) (Dp.ints (_ :: zs)), .lst (SqL.of upd_same) .nil, shaped_ints (_ :: zs), by rfl, ?_⟩
                  left
                  refine iteF ?_
                  left
                  exact ⟨r, xs, hs7.fr sA, ⟨hpl, dx, sA _ _ (sm _ _ hp6), sA _ _ (sm _ _ hl6)⟩, sA _ _ hr7, hl, hrl, r1, r2, _, _, _, _, _, _, _, _, _, rfl⟩
              · rcases hz with ⟨b, _⟩ | ⟨_, b, _⟩
                · exact absurd b1 b
                · exact absurd b2 b
        · left
          refine ⟨st, ls, _, _, rfl, hs4, by omega, by omega, by omega, fun v H6 v0 v1 hs6 fr6 => ?_⟩
          left
          refine w_iteI (fun e => ?_) (fun e => ?_)
          · left
            refine ⟨st, ls, _, _, rfl, hs6, by omega, by omega, by omega, fun v' H7 v0' v1' hs7 fr7 => ?_⟩
            left
            exact ⟨_, hs7.up (by omega), fr6.trans fr7, rfl⟩
          · left
            exact ⟨_, hs6.up (by omega), fr6, rfl⟩
      · rintro σ H5 ⟨r, xs, hs, hM, hr, hl, hrl, r1, r2, u2, u6, u7, u8, u9, u10, u11, u12, u13, rfl⟩
        exact ⟨hs.up (by omega), _, _, _, _, _, _, _, _, _, _, _, _, rfl⟩
    · rintro σ H1 ⟨hs, u2, u3, u4, u5, u6, u7, u8, u9, u10, u11, u12, u13, rfl⟩
      left
      exact k _
end

/-- an error of the class at S is what «except S» names -/
theorem exm_self {K : PySem.W.Frag} {S : Addr} (h1 : PySem.W.subIn K (.ref S) (.type "BaseException") = some true) (h2 : PySem.W.isClsIn K S = true) (h3 : PySem.W.typeIn K (.ref S) = some (.type "type")) (h4 : PySem.W.subIn K (.ref S) (.ref S) = some true) :
    PySem.W.exmOne K (.ref S) (.ref S) = some true := by
  have e1 : (PySem.W.subIn K (.ref S) (.type "BaseException") == some true) = true := by rw [h1] <;> rfl
  have e2 : ((PySem.W.clsIn K S).isSome && PySem.W.typeIn K (.ref S) == some (.type "type")) = true := by
    have h2' : (PySem.W.clsIn K S).isSome = true := h2
    rw [h2', h3] <;> rfl
  show (if (PySem.W.subIn K (.ref S) (.type "BaseException") == some true) = true then (if ((PySem.W.clsIn K S).isSome && PySem.W.typeIn K (.ref S) == some (.type "type")) = true then PySem.W.subIn K (.ref S) (.ref S) else none) else none) = some true
  rw [if_pos e1, if_pos e2]
  exact h4
theorem all_mk {l : PySem.W.OpenLaw} {w : World} {K : PySem.W.Frag} {h : Heap} {mg : Str → Option Value} {fa : Addr} (X : K.In h) (G : h.Ns mainGlobals mg) (hfa : mg "law" = some (.ref fa))
    {f0 : Addr} {od0 an0 : Option Addr} {sl0 : Array (Option Value)} {oc0 kV0 dc0 pm0 cd0 ct0 : Value}
    {f1 : Addr} {od1 an1 : Option Addr} {sl1 : Array (Option Value)} {oc1 kV1 dc1 pm1 cd1 ct1 : Value}
    {f2 : Addr} {od2 an2 : Option Addr} {sl2 : Array (Option Value)} {oc2 kV2 dc2 pm2 cd2 ct2 : Value}
    {f3 : Addr} {od3 an3 : Option Addr} {sl3 : Array (Option Value)} {oc3 kV3 dc3 pm3 cd3 ct3 : Value}
    {f4 : Addr} {od4 an4 : Option Addr} {sl4 : Array (Option Value)} {oc4 kV4 dc4 pm4 cd4 ct4 : Value}
    {f5 : Addr} {od5 an5 : Option Addr} {sl5 : Array (Option Value)} {oc5 kV5 dc5 pm5 cd5 ct5 : Value}
    {f6 : Addr} {od6 an6 : Option Addr} {sl6 : Array (Option Value)} {oc6 kV6 dc6 pm6 cd6 ct6 : Value}
    {f7 : Addr} {od7 an7 : Option Addr} {sl7 : Array (Option Value)} {oc7 kV7 dc7 pm7 cd7 ct7 : Value}
    {f8 : Addr} {od8 an8 : Option Addr} {sl8 : Array (Option Value)} {oc8 kV8 dc8 pm8 cd8 ct8 : Value}
    {f9 : Addr} {od9 an9 : Option Addr} {sl9 : Array (Option Value)} {oc9 kV9 dc9 pm9 cd9 ct9 : Value}
    {C_Memory : Addr}
    {f10 : Addr} {od10 an10 : Option Addr} {sl10 : Array (Option Value)} {oc10 kV10 dc10 pm10 cd10 ct10 : Value}
    {f11 : Addr} {od11 an11 : Option Addr} {sl11 : Array (Option Value)} {oc11 kV11 dc11 pm11 cd11 ct11 : Value}
    {f12 : Addr} {od12 an12 : Option Addr} {sl12 : Array (Option Value)} {oc12 kV12 dc12 pm12 cd12 ct12 : Value}
    {C_BadAddress B_BadAddress N_BadAddress : Addr} {nm_BadAddress q_BadAddress : Str} {bs_BadAddress sub_BadAddress : List Value} {sn_BadAddress : List Str} {ab_BadAddress : Bool} {col_BadAddress : Option Bool} {dd_BadAddress : Option Addr} {m0_BadAddress m1_BadAddress m2_BadAddress m3_BadAddress m5_BadAddress : Option Value}
    {f13 : Addr} {od13 an13 : Option Addr} {sl13 : Array (Option Value)} {oc13 kV13 dc13 pm13 cd13 ct13 : Value}
    {f14 : Addr} {od14 an14 : Option Addr} {sl14 : Array (Option Value)} {oc14 kV14 dc14 pm14 cd14 ct14 : Value}
    (a0 : PySem.W.nsIn K mainGlobals "is_whole" = some (some (.ref f0)))
    (l0 : K.lookup f0 = some ⟨oc0, od0, .func (PySem.W.fnOf "is_whole" "is_whole" (defArgs s_is_whole) (defBody s_is_whole) (defScope s_is_whole) .none kV0 dc0 pm0 an0 cd0 ct0), sl0⟩)
    (c0 : PySem.W.codeIn K cd0 "is_whole" = true)
    (k0 : PySem.W.keepIn K (.ref f0) = true)
    (a1 : PySem.W.nsIn K mainGlobals "is_octet" = some (some (.ref f1)))
    (l1 : K.lookup f1 = some ⟨oc1, od1, .func (PySem.W.fnOf "is_octet" "is_octet" (defArgs s_is_octet) (defBody s_is_octet) (defScope s_is_octet) .none kV1 dc1 pm1 an1 cd1 ct1), sl1⟩)
    (c1 : PySem.W.codeIn K cd1 "is_octet" = true)
    (k1 : PySem.W.keepIn K (.ref f1) = true)
    (a2 : PySem.W.nsIn K mainGlobals "has_room" = some (some (.ref f2)))
    (l2 : K.lookup f2 = some ⟨oc2, od2, .func (PySem.W.fnOf "has_room" "has_room" (defArgs s_has_room) (defBody s_has_room) (defScope s_has_room) .none kV2 dc2 pm2 an2 cd2 ct2), sl2⟩)
    (c2 : PySem.W.codeIn K cd2 "has_room" = true)
    (k2 : PySem.W.keepIn K (.ref f2) = true)
    (a3 : PySem.W.nsIn K mainGlobals "checked_octets" = some (some (.ref f3)))
    (l3 : K.lookup f3 = some ⟨oc3, od3, .func (PySem.W.fnOf "checked_octets" "checked_octets" (defArgs s_checked_octets) (defBody s_checked_octets) (defScope s_checked_octets) .none kV3 dc3 pm3 an3 cd3 ct3), sl3⟩)
    (c3 : PySem.W.codeIn K cd3 "checked_octets" = true)
    (k3 : PySem.W.keepIn K (.ref f3) = true)
    (a4 : PySem.W.nsIn K mainGlobals "_law_draw" = some (some (.ref f4)))
    (l4 : K.lookup f4 = some ⟨oc4, od4, .func (PySem.W.fnOf "_law_draw" "_law_draw" (defArgs s__law_draw) (defBody s__law_draw) (defScope s__law_draw) .none kV4 dc4 pm4 an4 cd4 ct4), sl4⟩)
    (c4 : PySem.W.codeIn K cd4 "_law_draw" = true)
    (k4 : PySem.W.keepIn K (.ref f4) = true)
    (a5 : PySem.W.nsIn K mainGlobals "_law_pick" = some (some (.ref f5)))
    (l5 : K.lookup f5 = some ⟨oc5, od5, .func (PySem.W.fnOf "_law_pick" "_law_pick" (defArgs s__law_pick) (defBody s__law_pick) (defScope s__law_pick) .none kV5 dc5 pm5 an5 cd5 ct5), sl5⟩)
    (c5 : PySem.W.codeIn K cd5 "_law_pick" = true)
    (k5 : PySem.W.keepIn K (.ref f5) = true)
    (a6 : PySem.W.nsIn K mainGlobals "_law_same" = some (some (.ref f6)))
    (l6 : K.lookup f6 = some ⟨oc6, od6, .func (PySem.W.fnOf "_law_same" "_law_same" (defArgs s__law_same) (defBody s__law_same) (defScope s__law_same) .none kV6 dc6 pm6 an6 cd6 ct6), sl6⟩)
    (c6 : PySem.W.codeIn K cd6 "_law_same" = true)
    (k6 : PySem.W.keepIn K (.ref f6) = true)
    (a7 : PySem.W.nsIn K mainGlobals "_law_some_octets" = some (some (.ref f7)))
    (l7 : K.lookup f7 = some ⟨oc7, od7, .func (PySem.W.fnOf "_law_some_octets" "_law_some_octets" (defArgs s__law_some_octets) (defBody s__law_some_octets) (defScope s__law_some_octets) .none kV7 dc7 pm7 an7 cd7 ct7), sl7⟩)
    (c7 : PySem.W.codeIn K cd7 "_law_some_octets" = true)
    (k7 : PySem.W.keepIn K (.ref f7) = true)
    (a8 : PySem.W.nsIn K mainGlobals "_law_moved" = some (some (.ref f8)))
    (l8 : K.lookup f8 = some ⟨oc8, od8, .func (PySem.W.fnOf "_law_moved" "_law_moved" (defArgs s__law_moved) (defBody s__law_moved) (defScope s__law_moved) .none kV8 dc8 pm8 an8 cd8 ct8), sl8⟩)
    (c8 : PySem.W.codeIn K cd8 "_law_moved" = true)
    (k8 : PySem.W.keepIn K (.ref f8) = true)
    (a9 : PySem.W.nsIn K mainGlobals "_law_place" = some (some (.ref f9)))
    (l9 : K.lookup f9 = some ⟨oc9, od9, .func (PySem.W.fnOf "_law_place" "_law_place" (defArgs s__law_place) (defBody s__law_place) (defScope s__law_place) .none kV9 dc9 pm9 an9 cd9 ct9), sl9⟩)
    (c9 : PySem.W.codeIn K cd9 "_law_place" = true)
    (k9 : PySem.W.keepIn K (.ref f9) = true)
    (aC_Memory : PySem.W.nsIn K mainGlobals "Memory" = some (some (.ref C_Memory)))
    (pg_Memory : PySem.W.plainGet K C_Memory Str.empty = true)
    (hd_Memory : PySem.W.hasDictIn K C_Memory = true)
    (po_Memory : PySem.W.plainOver K C_Memory = true)
    (sa_Memory : PySem.W.findIn K (.ref C_Memory) "__setattr__" = some (some (.builtin "object.__setattr__")))
    (mk_Memory : PySem.W.makesIn K C_Memory = true)
    (kc_Memory : PySem.W.keepIn K (.ref C_Memory) = true)
    (n_Memory_cells : PySem.W.findIn K (.ref C_Memory) "cells" = some none)
    (a10 : PySem.W.findIn K (.ref C_Memory) "__init__" = some (some (.ref f10)))
    (i10 : PySem.W.isFn K (.ref f10) = true)
    (l10 : K.lookup f10 = some ⟨oc10, od10, .func (PySem.W.fnOf "__init__" "Memory.__init__" (defArgs s_Memory___init__) (defBody s_Memory___init__) (defScope s_Memory___init__) .none kV10 dc10 pm10 an10 cd10 ct10), sl10⟩)
    (c10 : PySem.W.codeIn K cd10 "Memory.__init__" = true)
    (k10 : PySem.W.keepIn K (.ref f10) = true)
    (a11 : PySem.W.findIn K (.ref C_Memory) "octets" = some (some (.ref f11)))
    (i11 : PySem.W.isFn K (.ref f11) = true)
    (l11 : K.lookup f11 = some ⟨oc11, od11, .func (PySem.W.fnOf "octets" "Memory.octets" (defArgs s_Memory_octets) (defBody s_Memory_octets) (defScope s_Memory_octets) .none kV11 dc11 pm11 an11 cd11 ct11), sl11⟩)
    (c11 : PySem.W.codeIn K cd11 "Memory.octets" = true)
    (k11 : PySem.W.keepIn K (.ref f11) = true)
    (a12 : PySem.W.findIn K (.ref C_Memory) "move" = some (some (.ref f12)))
    (i12 : PySem.W.isFn K (.ref f12) = true)
    (l12 : K.lookup f12 = some ⟨oc12, od12, .func (PySem.W.fnOf "move" "Memory.move" (defArgs s_Memory_move) (defBody s_Memory_move) (defScope s_Memory_move) .none kV12 dc12 pm12 an12 cd12 ct12), sl12⟩)
    (c12 : PySem.W.codeIn K cd12 "Memory.move" = true)
    (k12 : PySem.W.keepIn K (.ref f12) = true)
    (aE_BadAddress : PySem.W.nsIn K mainGlobals "BadAddress" = some (some (.ref C_BadAddress)))
    (xL_BadAddress : K.lookup C_BadAddress = some (excClassObj nm_BadAddress q_BadAddress C_BadAddress N_BadAddress bs_BadAddress [.ref B_BadAddress, .type "ValueError", .type "Exception", .type "BaseException", .type "object"] true sn_BadAddress sub_BadAddress ab_BadAddress col_BadAddress dd_BadAddress m0_BadAddress m1_BadAddress m2_BadAddress m3_BadAddress m5_BadAddress "ValueError.__new__"))
    (sE_BadAddress : PySem.W.findIn K (.ref C_BadAddress) "__setattr__" = some (some (.builtin "object.__setattr__")))
    (gE_BadAddress : PySem.W.findIn K (.ref C_BadAddress) "__getattribute__" = some (some (.builtin "BaseException.__getattribute__")))
    (hE_BadAddress : PySem.W.findIn K (.ref C_BadAddress) "__getattr__" = some none)
    (nE_BadAddress : PySem.W.findIn K (.ref C_BadAddress) "octet" = some none)
    (kE_BadAddress : PySem.W.keepIn K (.ref C_BadAddress) = true)
    (bE_BadAddress : PySem.W.subIn K (.ref C_BadAddress) (.type "BaseException") = some true)
    (tE_BadAddress : PySem.W.typeIn K (.ref C_BadAddress) = some (.type "type"))
    (dE_BadAddress : PySem.W.hasDictIn K C_BadAddress = true)
    (iE_BadAddress : PySem.W.isClsIn K C_BadAddress = true)
    (uE_BadAddress : PySem.W.subIn K (.ref C_BadAddress) (.ref C_BadAddress) = some true)
    (a13 : PySem.W.findIn K (.ref C_BadAddress) "__init__" = some (some (.ref f13)))
    (l13 : K.lookup f13 = some ⟨oc13, od13, .func (PySem.W.fnOf "__init__" "BadAddress.__init__" (defArgs s_BadAddress___init__) (defBody s_BadAddress___init__) (defScope s_BadAddress___init__) .none kV13 dc13 pm13 an13 cd13 ct13), sl13⟩)
    (c13 : PySem.W.codeIn K cd13 "BadAddress.__init__" = true)
    (k13 : PySem.W.keepIn K (.ref f13) = true)
    (t13 : PySem.W.typeIn K (.ref f13) = some (.type "function"))
    (a14 : PySem.W.nsIn K mainGlobals "law" = some (some (.ref f14)))
    (l14 : K.lookup f14 = some ⟨oc14, od14, .func (PySem.W.fnOf "law" "law" (defArgs s_law) (defBody s_law) (defScope s_law) .none kV14 dc14 pm14 an14 cd14 ct14), sl14⟩)
    (c14 : PySem.W.codeIn K cd14 "law" = true)
    (k14 : PySem.W.keepIn K (.ref f14) = true)
    (z_int : PySem.W.nsIn K mainGlobals "int" = some none)
    (z_len : PySem.W.nsIn K mainGlobals "len" = some none)
    (z_isinstance : PySem.W.nsIn K mainGlobals "isinstance" = some none)
    (z_bool : PySem.W.nsIn K mainGlobals "bool" = some none)
    (z_list : PySem.W.nsIn K mainGlobals "list" = some none)
    (z_tuple : PySem.W.nsIn K mainGlobals "tuple" = some none)
    (z_dict : PySem.W.nsIn K mainGlobals "dict" = some none)
    (z_range : PySem.W.nsIn K mainGlobals "range" = some none)
    (z_zip : PySem.W.nsIn K mainGlobals "zip" = some none)
    (z_all : PySem.W.nsIn K mainGlobals "all" = some none)
    (z_min : PySem.W.nsIn K mainGlobals "min" = some none)
    (z_max : PySem.W.nsIn K mainGlobals "max" = some none) :
    ∃ fd : FuncData, (∀ (s : Shared) (v : Value), BindsTo s fd ⟨[v], []⟩ [("_law_script", v)]) ∧ ∀ base : Heap, K.In base → base.Ns mainGlobals mg → FnOk l.prog w K mg base CX0 12 fa fd ["_law_script"] (spLaw K) := by
  have e := hfa.symm.trans (PySem.W.mg_of X G a14)
  cases e
  have F0 := fun_mk (st := s_is_whole) l0 c0 k0
  have Df_is_whole : Def K mg "is_whole" s_is_whole P_is_whole := ⟨⟨_, _, F0, PySem.W.mg_of X G a0, F0.binds (ps := ["value"]) fun _ _ _ _ _ _ us hl => match us, hl with | [_], _ => rfl⟩⟩
  have F1 := fun_mk (st := s_is_octet) l1 c1 k1
  have Df_is_octet : Def K mg "is_octet" s_is_octet P_is_octet := ⟨⟨_, _, F1, PySem.W.mg_of X G a1, F1.binds (ps := ["value"]) fun _ _ _ _ _ _ us hl => match us, hl with | [_], _ => rfl⟩⟩
  have F2 := fun_mk (st := s_has_room) l2 c2 k2
  have Df_has_room : Def K mg "has_room" s_has_room P_has_room := ⟨⟨_, _, F2, PySem.W.mg_of X G a2, F2.binds (ps := ["start", "many", "length"]) fun _ _ _ _ _ _ us hl => match us, hl with | [_, _, _], _ => rfl⟩⟩
  have F3 := fun_mk (st := s_checked_octets) l3 c3 k3
  have Df_checked_octets : Def K mg "checked_octets" s_checked_octets P_checked_octets := ⟨⟨_, _, F3, PySem.W.mg_of X G a3, F3.binds (ps := ["octets"]) fun _ _ _ _ _ _ us hl => match us, hl with | [_], _ => rfl⟩⟩
  have F4 := fun_mk (st := s__law_draw) l4 c4 k4
  have Df__law_draw : Def K mg "_law_draw" s__law_draw P__law_draw := ⟨⟨_, _, F4, PySem.W.mg_of X G a4, F4.binds (ps := ["_law_stream", "_law_many"]) fun _ _ _ _ _ _ us hl => match us, hl with | [_, _], _ => rfl⟩⟩
  have F5 := fun_mk (st := s__law_pick) l5 c5 k5
  have Df__law_pick : Def K mg "_law_pick" s__law_pick P__law_pick := ⟨⟨_, _, F5, PySem.W.mg_of X G a5, F5.binds (ps := ["_law_stream", "_law_some"]) fun _ _ _ _ _ _ us hl => match us, hl with | [_, _], _ => rfl⟩⟩
  have F6 := fun_mk (st := s__law_same) l6 c6 k6
  have Df__law_same : Def K mg "_law_same" s__law_same P__law_same := ⟨⟨_, _, F6, PySem.W.mg_of X G a6, F6.binds (ps := ["_law_found", "_law_due"]) fun _ _ _ _ _ _ us hl => match us, hl with | [_, _], _ => rfl⟩⟩
  have F7 := fun_mk (st := s__law_some_octets) l7 c7 k7
  have Df__law_some_octets : Def K mg "_law_some_octets" s__law_some_octets P__law_some_octets := ⟨⟨_, _, F7, PySem.W.mg_of X G a7, F7.binds (ps := ["_law_stream", "_law_many"]) fun _ _ _ _ _ _ us hl => match us, hl with | [_, _], _ => rfl⟩⟩
  have F8 := fun_mk (st := s__law_moved) l8 c8 k8
  have Df__law_moved : Def K mg "_law_moved" s__law_moved P__law_moved := ⟨⟨_, _, F8, PySem.W.mg_of X G a8, F8.binds (ps := ["_law_memory", "_law_to", "_law_source", "_law_many"]) fun _ _ _ _ _ _ us hl => match us, hl with | [_, _, _, _], _ => rfl⟩⟩
  have F9 := fun_mk (st := s__law_place) l9 c9 k9
  have Df__law_place : Def K mg "_law_place" s__law_place P__law_place := ⟨⟨_, _, F9, PySem.W.mg_of X G a9, F9.binds (ps := ["_law_stream", "_law_many", "_law_size"]) fun _ _ _ _ _ _ us hl => match us, hl with | [_, _, _], _ => rfl⟩⟩
  have c_Memory : Cls K C_Memory := ⟨pg_Memory, hd_Memory, po_Memory, sa_Memory⟩
  have F10 := fun_mk (st := s_Memory___init__) l10 c10 k10
  have Dk_Memory : ∃ f fd, Fun K "__init__" "Memory.__init__" s_Memory___init__ f fd ∧ Mk K C_Memory f ∧ Binds K fd P_Memory___init__ [] := ⟨_, _, F10, ⟨mk_Memory, a10, i10, kc_Memory⟩, F10.binds (ps := ["self", "octets"]) fun _ _ _ _ _ _ us hl => match us, hl with | [_, _], _ => rfl⟩
  have F11 := fun_mk (st := s_Memory_octets) l11 c11 k11
  have Dm_Memory_octets : DefM K C_Memory "octets" "Memory.octets" s_Memory_octets P_Memory_octets := ⟨⟨_, _, F11, ⟨a11, i11, k11⟩, F11.binds (ps := ["self"]) fun _ _ _ _ _ _ us hl => match us, hl with | [_], _ => rfl⟩⟩
  have F12 := fun_mk (st := s_Memory_move) l12 c12 k12
  have Dm_Memory_move : DefM K C_Memory "move" "Memory.move" s_Memory_move P_Memory_move := ⟨⟨_, _, F12, ⟨a12, i12, k12⟩, F12.binds (ps := ["self", "to", "source", "many"]) fun _ _ _ _ _ _ us hl => match us, hl with | [_, _, _, _], _ => rfl⟩⟩
  have F13 := fun_mk (st := s_BadAddress___init__) l13 c13 k13
  have ox_BadAddress : OexC K C_BadAddress := ⟨⟨_, _, _, _, _, _, _, _, _, _, _, _, _, _, _, xL_BadAddress, by show PySem.HandSPX.refsVE PySem.HandSPX.veTail = true; decide +kernel⟩, sE_BadAddress, bE_BadAddress, tE_BadAddress, kE_BadAddress⟩
  have te_BadAddress : PySem.W.exmOne K (.ref C_BadAddress) (.ref C_BadAddress) = some true := exm_self bE_BadAddress iE_BadAddress tE_BadAddress uE_BadAddress
  have E_BadAddress : ∀ base, ErrOk l.prog w K mg base "BadAddress" C_BadAddress "octet" := fun base => ⟨PySem.W.mg_of X G aE_BadAddress, ox_BadAddress, ⟨gE_BadAddress, hE_BadAddress, bE_BadAddress, dE_BadAddress⟩, nE_BadAddress, ⟨_, _, _, a13, t13, F13.binds (ps := ["self", "octet"]) fun _ _ _ _ _ _ us hl => match us, hl with | [_, _], _ => rfl, ok_err_BadAddress F13 ox_BadAddress nE_BadAddress⟩⟩
  have F14 := fun_mk (st := s_law) l14 c14 k14
  have T : Txt K mg := ⟨PySem.W.mg_none_of X G z_int, PySem.W.mg_none_of X G z_len, PySem.W.mg_none_of X G z_isinstance, PySem.W.mg_none_of X G z_bool, PySem.W.mg_none_of X G z_list, PySem.W.mg_none_of X G z_tuple, PySem.W.mg_none_of X G z_dict, PySem.W.mg_none_of X G z_range, PySem.W.mg_none_of X G z_zip, PySem.W.mg_none_of X G z_all, PySem.W.mg_none_of X G z_min, PySem.W.mg_none_of X G z_max⟩
  refine ⟨PySem.W.fnOf "law" "law" (defArgs s_law) (defBody s_law) (defScope s_law) .none kV14 dc14 pm14 an14 cd14 ct14, fun s v => .of_eq rfl, fun base _ _ => ?_⟩
  have D_is_whole : CallOk l.prog w K mg base "is_whole" 1 spWhole := Df_is_whole.call fun f fd F => ok_whole F T
  have D_is_octet : CallOk l.prog w K mg base "is_octet" 3 spOctet := Df_is_octet.call fun f fd F => ok_octet F T D_is_whole
  have D_has_room : CallOk l.prog w K mg base "has_room" 1 spRoom := Df_has_room.call fun f fd F => ok_room F T
  have D_checked_octets : CallOk l.prog w K mg base "checked_octets" 5 spChk := Df_checked_octets.call fun f fd F => ok_chk F T D_is_octet
  have D__law_draw : CallOk l.prog w K mg base "_law_draw" 1 spDraw := Df__law_draw.call fun f fd F => ok_draw F T
  have D__law_pick : CallOk l.prog w K mg base "_law_pick" 3 spPick := Df__law_pick.call fun f fd F => ok_pick F T D__law_draw
  have D__law_some_octets : CallOk l.prog w K mg base "_law_some_octets" 5 spOcts := Df__law_some_octets.call fun f fd F => ok_octs F T D__law_draw D__law_pick
  have D__law_place : CallOk l.prog w K mg base "_law_place" 5 spPlace := Df__law_place.call fun f fd F => ok_place F T D__law_draw D__law_pick
  have D_Memory : MakeOk l.prog w K mg base "Memory" C_Memory 7 (spMem C_Memory) := by
    obtain ⟨f, fd, F, M, b⟩ := Dk_Memory
    exact ⟨f, fd, _, M, PySem.W.mg_of X G aC_Memory, b, FnOk.up (ok_mem F T c_Memory n_Memory_cells D_is_whole D_checked_octets)⟩
  have D_octets : MethOk l.prog w K mg base C_Memory "octets" 1 (spOctsM C_Memory) := Dm_Memory_octets.meth fun f fd F => ok_octsM F T c_Memory n_Memory_cells
  have D_move : MethOk l.prog w K mg base C_Memory "move" 5 (spMove C_Memory C_BadAddress) := Dm_Memory_move.methX fun f fd F => ok_move F T c_Memory n_Memory_cells D_has_room (E_BadAddress base)
  have D__law_moved : CallOk l.prog w K mg base "_law_moved" 7 (spMoved C_Memory) := Df__law_moved.call fun f fd F => ok_moved F T c_Memory D_move (E_BadAddress base) te_BadAddress
  have D__law_same : CallOk l.prog w K mg base "_law_same" 3 (spSame 3) := same_all Df__law_same T 3
  exact ok_law F14 T c_Memory D__law_draw D__law_pick D__law_some_octets D__law_place D__law_moved D__law_same D_Memory D_octets
end FB
open PySem PySem.W PyProof.Rows in
set_option maxRecDepth 100000 in
set_option maxHeartbeats 0 in
theorem PySem.Challenge.cw_fieldberth_k37_octets_moved_holds : PySem.Challenge.rw_fieldberth_k37_octets_moved.Holds := by
  w_on; o_law; k_head; (case hw => w_witness2)
  k_fill
  refine L2.walk_ofK (l := PySem.Challenge.rw_fieldberth_k37_octets_moved) (n := 63) (k := 12) (x := "_law_script") (CX := L2.CX0) (sp := FB.spLaw) rfl (by decide) rfl ⟨rfl, by decide, by decide⟩ (fun w h Y => PySem.W.kIn_of Y) ?F (fun _ _ a ns hl _ hS => ⟨a, ns, rfl, hS, hl, fun _ => rfl⟩) fun _ _ _ _ z => z
  case F =>
    intro w mg fa h KX G hmg
    refine' FB.all_mk KX G hmg ?a0 ?l0 ?c0 ?k0 ?a1 ?l1 ?c1 ?k1 ?a2 ?l2 ?c2 ?k2 ?a3 ?l3 ?c3 ?k3 ?a4 ?l4 ?c4 ?k4 ?a5 ?l5 ?c5 ?k5 ?a6 ?l6 ?c6 ?k6 ?a7 ?l7 ?c7 ?k7 ?a8 ?l8 ?c8 ?k8 ?a9 ?l9 ?c9 ?k9 ?aC_Memory ?pg_Memory ?hd_Memory ?po_Memory ?sa_Memory ?mk_Memory ?kc_Memory ?n_Memory_cells ?a10 ?i10 ?l10 ?c10 ?k10 ?a11 ?i11 ?l11 ?c11 ?k11 ?a12 ?i12 ?l12 ?c12 ?k12 ?aE_BadAddress ?xL_BadAddress ?sE_BadAddress ?gE_BadAddress ?hE_BadAddress ?nE_BadAddress ?kE_BadAddress ?bE_BadAddress ?tE_BadAddress ?dE_BadAddress ?iE_BadAddress ?uE_BadAddress ?a13 ?l13 ?c13 ?k13 ?t13 ?a14 ?l14 ?c14 ?k14 ?z_int ?z_len ?z_isinstance ?z_bool ?z_list ?z_tuple ?z_dict ?z_range ?z_zip ?z_all ?z_min ?z_max
    (case a0 => k_is)
    (case l0 => k_is)
    (case c0 => k_is)
    (case k0 => k_is)
    (case a1 => k_is)
    (case l1 => k_is)
    (case c1 => k_is)
    (case k1 => k_is)
    (case a2 => k_is)
    (case l2 => k_is)
    (case c2 => k_is)
    (case k2 => k_is)
    (case a3 => k_is)
    (case l3 => k_is)
    (case c3 => k_is)
    (case k3 => k_is)
    (case a4 => k_is)
    (case l4 => k_is)
    (case c4 => k_is)
    (case k4 => k_is)
    (case a5 => k_is)
    (case l5 => k_is)
    (case c5 => k_is)
    (case k5 => k_is)
    (case a6 => k_is)
    (case l6 => k_is)
    (case c6 => k_is)
    (case k6 => k_is)
    (case a7 => k_is)
    (case l7 => k_is)
    (case c7 => k_is)
    (case k7 => k_is)
    (case a8 => k_is)
    (case l8 => k_is)
    (case c8 => k_is)
    (case k8 => k_is)
    (case a9 => k_is)
    (case l9 => k_is)
    (case c9 => k_is)
    (case k9 => k_is)
    (case aC_Memory => k_is)
    (case pg_Memory => k_is)
    (case hd_Memory => k_is)
    (case po_Memory => k_is)
    (case sa_Memory => k_is)
    (case mk_Memory => k_is)
    (case kc_Memory => k_is)
    (case n_Memory_cells => k_is)
    (case a10 => k_is)
    (case i10 => k_is)
    (case l10 => k_is)
    (case c10 => k_is)
    (case k10 => k_is)
    (case a11 => k_is)
    (case i11 => k_is)
    (case l11 => k_is)
    (case c11 => k_is)
    (case k11 => k_is)
    (case a12 => k_is)
    (case i12 => k_is)
    (case l12 => k_is)
    (case c12 => k_is)
    (case k12 => k_is)
    (case aE_BadAddress => k_is)
    (case xL_BadAddress => k_is)
    (case sE_BadAddress => k_is)
    (case gE_BadAddress => k_is)
    (case hE_BadAddress => k_is)
    (case nE_BadAddress => k_is)
    (case kE_BadAddress => k_is)
    (case bE_BadAddress => k_is)
    (case tE_BadAddress => k_is)
    (case dE_BadAddress => k_is)
    (case iE_BadAddress => k_is)
    (case uE_BadAddress => k_is)
    (case a13 => k_is)
    (case l13 => k_is)
    (case c13 => k_is)
    (case k13 => k_is)
    (case t13 => k_is)
    (case a14 => k_is)
    (case l14 => k_is)
    (case c14 => k_is)
    (case k14 => k_is)
    (case z_int => k_is)
    (case z_len => k_is)
    (case z_isinstance => k_is)
    (case z_bool => k_is)
    (case z_list => k_is)
    (case z_tuple => k_is)
    (case z_dict => k_is)
    (case z_range => k_is)
    (case z_zip => k_is)
    (case z_all => k_is)
    (case z_min => k_is)
    (case z_max => k_is)

