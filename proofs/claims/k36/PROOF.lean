import PyProof.Rows.All
import Wide.All
import OpenK.AllK
import Wide.FinOn
import HandS.ForExc
import HandS.Comp
import HandS.Iter
import HandS.Zip
import HandS.IsInst
import HandS.ExcInit
import HandS.Style
import HandS.ExcField
import KE.KOpsOwn
import HandS.Property
import PyProof.ReprRoads
import PyProof.ReprDict
import PyProof.ReprHeadsTuple
import PyProof.EqAt
import PyProof.InstEq
import HandS.ExcIs
import HandS.More
import HandS.Dict
import HandS.TryMany
import HandS.Lambda
import HandS.EndTab
import KE.KNestM
import PySem.Challenge.RW_fieldberth_k36_octets_read_and_set
set_option Elab.async false
set_option linter.all false
set_option maxRecDepth 100000
namespace FB
open PySem L2 RZ
/-! ### named readings of some built-ins -/
def rInt1 : List V → Hp → VK → Prop := fun xs H Q => ∃ i, xs = [.int i] ∧ Q (.int i) H
def rLenQ (K : PySem.W.Frag) : List V → Hp → VK → Prop := fun xs H Q => ∃ p ys, xs = [.ref p] ∧ (SqL K H p ys ∨ SqT K H p ys) ∧ Q (.int ys.length) H
def rListQ (K : PySem.W.Frag) : List V → Hp → VK → Prop := fun xs H Q => ∃ p ys, xs = [.ref p] ∧ (SqL K H p ys ∨ SqT K H p ys) ∧ ∀ l, H l = none → Q (.ref l) (upd H l (.lst ys))
def rMax2 : List V → Hp → VK → Prop := fun xs H Q => ∃ i j, xs = [.int i, .int j] ∧ Q (.int (if j > i then j else i)) H
def rMin2 : List V → Hp → VK → Prop := fun xs H Q => ∃ i j, xs = [.int i, .int j] ∧ Q (.int (if j < i then j else i)) H
section
variable {X : Cx}
theorem cq_int : CallR X (.type "int") rInt1 := fun pins s σ H xs us Q I r h => call_int1 pins s σ H xs us Q I r (.inl h)
theorem cq_len : CallR X (.builtin "len") (rLenQ X.K) := call_len_seq
theorem cq_list : CallR X (.type "list") (rListQ X.K) := call_list_of
theorem cq_max (hc : X.calm = true) : CallR X (.builtin "max") rMax2 := call_max2 hc
theorem cq_min (hc : X.calm = true) : CallR X (.builtin "min") rMin2 := call_min2 hc
end
/-! ### what a caller needs of a def, a method, a class -/
section
variable (P : Program) (w : World) (K : PySem.W.Frag) (mg : Str → Option Value) (base : Heap)
structure CallOk (x : Str) (k : Nat) (sp : Sp) : Prop where
  ex : ∃ f fd ps, mg x = some (.ref f) ∧ PySem.W.keepIn K (.ref f) = true ∧ Binds K fd ps [] ∧ FnOk P w K mg base (L2.CX P w) k f fd ps sp
structure MethOk (C : Addr) (m : Str) (k : Nat) (sp : Sp) : Prop where
  ex : ∃ f fd ps, Meth K C m f ∧ Binds K fd ps [] ∧ FnOk P w K mg base (L2.CX P w) k f fd ps sp
structure MakeOk (x : Str) (C : Addr) (k : Nat) (sp : Sp) : Prop where
  ex : ∃ f fd ps, Mk K C f ∧ mg x = some (.ref C) ∧ Binds K fd ps [] ∧ FnOk P w K mg base (L2.CX P w) k f fd ps sp
/-- a def of the text: where it stands, that its arguments bind -/
structure Def (x : Str) (st : Stmt) (ps : List Str) : Prop where
  ex : ∃ f fd, Fun K x x st f fd ∧ mg x = some (.ref f) ∧ Binds K fd ps []
structure DefM (C : Addr) (m qual : Str) (st : Stmt) (ps : List Str) : Prop where
  ex : ∃ f fd, Fun K m qual st f fd ∧ Meth K C m f ∧ Binds K fd ps []
end
/-- a reading may be weakened behind -/
def tUpA (t : TA) : TA := fun σ H R => ∃ R', t σ H R' ∧ ∀ vs H1, R' vs H1 → R vs H1
def tUpT (t : TT) : TT := fun σ H R => ∃ R', t σ H R' ∧ ∀ b H1, R' b H1 → R b H1
def tUpS (t : TS) : TS := fun D σ H => ∃ N : St → Hp → Prop, (∀ σ H, N σ H → D.nx σ H) ∧ t { D with nx := N } σ H
theorem ps_up {X : Cx} {st : Stmt} {t : TS} (h : PS X st t) : PS X st (tUpS t) :=
  ⟨fun pins s σ H D I ⟨N, m, q⟩ => thn (h.run pins s σ H { D with nx := N } I q) fun f s' z => by
    cases f with
    | next => obtain ⟨σ', H', I', q'⟩ := z; exact ⟨σ', H', I', m σ' H' q'⟩
    | brk => exact z
    | cont => exact z
    | ret u => exact z⟩
theorem w_up {t : TS} {D : Ends} {σ : St} {H : Hp} (N : St → Hp → Prop) (m : ∀ σ H, N σ H → D.nx σ H) (q : t { D with nx := N } σ H) : tUpS t D σ H := ⟨N, m, q⟩
theorem pa_up {X : Cx} {es : List Expr} {t : TA} (h : PA X es t) : PA X es (tUpA t) :=
  ⟨fun pos pins s σ H Q I ⟨R', q, m⟩ => thn (h.run pos pins s σ H R' I q) fun us s' ⟨vs, H1, I1, r, z⟩ => ⟨vs, H1, I1, r, m vs H1 z⟩⟩
theorem pt_up {X : Cx} {e : Expr} {t : TT} (h : PT X e t) : PT X e (tUpT t) :=
  ⟨fun pins s σ H Q I ⟨R', q, m⟩ => thn (h.run pins s σ H R' I q) fun b s' ⟨H1, I1, z⟩ => ⟨H1, I1, m b H1 z⟩⟩
/-- what the error class's __init__ does: self.f = v -/
def spErr (C : Addr) (f : Str) : Sp := fun vs H Q _ => ∃ (a : Addr) (v : V), vs = [.ref a, v] ∧ H a = some (exo a C none) ∧ ∀ d, H d = none → d ≠ a → Q .non (upd (upd H d (exd d [(f, v)])) a (exo a C (some d)))
structure ErrOk (P : Program) (w : World) (K : PySem.W.Frag) (mg : Str → Option Value) (base : Heap) (x : Str) (C : Addr) (f : Str) : Prop where
  mgC : mg x = some (.ref C)
  oex : OexC K C
  xf : XfC K C
  nf : PySem.W.findIn K (.ref C) f = some none
  ex : ∃ fI fd ps, PySem.W.findIn K (.ref C) "__init__" = some (some (.ref fI)) ∧ PySem.W.typeIn K (.ref fI) = some (.type "function") ∧ Binds K fd ps [] ∧ FnOk P w K mg base CX0 1 fI fd ps (spErr C f)
/-- raise X(e): where the way leads -/
def tErr (C : Addr) (f : Str) (ta : TA) : St → Hp → XK → Prop := fun σ H Q => ta σ H fun vs H1 => ∃ v, vs = [v] ∧ ∀ d H', H1 d = none → Same H1 H' → H' d = some (.xd [(f, v)]) → Q (.ref C) (some d) H'
section
variable {X : Cx} {e o : Expr} {es : List Expr} {ta : TE} {t : TA} {x m : Str} {p pos apos : Pos} {k : Nat} {sp : Sp} {C : Addr}
theorem FnOk.up {P : Program} {w : World} {K : PySem.W.Frag} {mg : Str → Option Value} {base : Heap} {f : Addr} {fd : FuncData} {ps : List Str} (F : FnOk P w K mg base CX0 k f fd ps sp) : FnOk P w K mg base (L2.CX P w) k f fd ps sp :=
  ⟨F.len, fun A outer s H args us vs Q E hr he hb hv hs => codeAny_mono (F.run A outer s H args us vs Q E hr he hb hv hs) fun r s' h => by
    cases r with
    | error e => exact False.elim h
    | ok fl => cases fl <;> exact h⟩
theorem Def.call {P : Program} {w : World} {K : PySem.W.Frag} {mg : Str → Option Value} {base : Heap} {x : Str} {st : Stmt} {ps : List Str} {k : Nat} {sp : Sp} (D : Def K mg x st ps) (h : ∀ f fd, Fun K x x st f fd → FnOk P w K mg base CX0 k f fd ps sp) : CallOk P w K mg base x k sp :=
  let ⟨f, fd, F, g, b⟩ := D.ex
  ⟨f, fd, ps, g, F.kp, b, FnOk.up (h f fd F)⟩
theorem Def.callX {P : Program} {w : World} {K : PySem.W.Frag} {mg : Str → Option Value} {base : Heap} {x : Str} {st : Stmt} {ps : List Str} {k : Nat} {sp : Sp} (D : Def K mg x st ps) (h : ∀ f fd, Fun K x x st f fd → FnOk P w K mg base (L2.CX P w) k f fd ps sp) : CallOk P w K mg base x k sp :=
  let ⟨f, fd, F, g, b⟩ := D.ex
  ⟨f, fd, ps, g, F.kp, b, h f fd F⟩
theorem DefM.meth {P : Program} {w : World} {K : PySem.W.Frag} {mg : Str → Option Value} {base : Heap} {C : Addr} {m qual : Str} {st : Stmt} {ps : List Str} {k : Nat} {sp : Sp} (D : DefM K C m qual st ps) (h : ∀ f fd, Fun K m qual st f fd → FnOk P w K mg base CX0 k f fd ps sp) : MethOk P w K mg base C m k sp :=
  let ⟨f, fd, F, g, b⟩ := D.ex
  ⟨f, fd, ps, g, b, FnOk.up (h f fd F)⟩
theorem DefM.methX {P : Program} {w : World} {K : PySem.W.Frag} {mg : Str → Option Value} {base : Heap} {C : Addr} {m qual : Str} {st : Stmt} {ps : List Str} {k : Nat} {sp : Sp} (D : DefM K C m qual st ps) (h : ∀ f fd, Fun K m qual st f fd → FnOk P w K mg base (L2.CX P w) k f fd ps sp) : MethOk P w K mg base C m k sp :=
  let ⟨f, fd, F, g, b⟩ := D.ex
  ⟨f, fd, ps, g, b, h f fd F⟩
/-- no star among the arguments; the call of a method as the machine takes it -/
def Star1 (X : Cx) (e : Expr) (es : List Expr) : Prop := starEach (e :: es) X.env = (false, eval e X.env) :: starEach es X.env
def NoStar (X : Cx) (es : List Expr) (pos : Pos) : Prop := (backTo pos (starEach es X.env)).any (·.1) = false
def MethEq (X : Cx) (o : Expr) (m : Str) (apos : Pos) (es : List Expr) (pos : Pos) (pl : Sem Bool) : Prop := eval (.Call (.Attribute o m apos) es [] pos) X.env = (do let ov ← eval o X.env; standAt apos.atName; let (f, first) ← holding [ov] (getMethod ov m pl); callWith pos f first (backTo pos (starEach es X.env)) (backToKw pos (keywordEach [] X.env)))
abbrev COk (X : Cx) := CallOk X.prog X.w X.K X.mg X.base
abbrev MOk (X : Cx) := MethOk X.prog X.w X.K X.mg X.base
abbrev KOk (X : Cx) := MakeOk X.prog X.w X.K X.mg X.base
abbrev EOk (X : Cx) := ErrOk X.prog X.w X.K X.mg X.base
/-- f(e, ..), nothing raised -/
theorem pe_callD (D : COk X x k sp) (hr : Room k X.A) (hg : Gl X x) (ha : PA X (e :: es) t) (hdb : (x == ("__debug__" : Str)) = false := by decide)
    (he : Star1 X e es := by exact rfl) (hpl : NoStar X es pos := by exact rfl) : PE X (.Call (.Name x p) (e :: es) [] pos) (tCall sp [] E0 t) :=
  let ⟨_, _, _, g, kp, b, F⟩ := D.ex
  pe_call F hr hg g kp b .nil passL ha hdb he hpl
/-- f(e, ..) whose errors reach this def's wish W at the slots as they stand -/
theorem pe_callW {W : WX} (tk : Takes X W) (D : COk X x k sp) (hr : Room k X.A) (hg : Gl X x) (ha : PA X (e :: es) t) (hdb : (x == ("__debug__" : Str)) = false := by decide)
    (he : Star1 X e es := by exact rfl) (hpl : NoStar X es pos := by exact rfl) : PE X (.Call (.Name x p) (e :: es) [] pos) (tCallS sp (WE W) t) :=
  let ⟨_, _, _, g, kp, b, F⟩ := D.ex
  pe_callS F hr hg g kp b (fun σ => passAt tk σ) ha hdb he hpl
theorem pe_methD {pl : Sem Bool} (he : PE X o ta) (c : Cls X.K C) (D : MOk X C m k sp) (hr : Room k X.A) (ha : PA X (e :: es) t)
    (hst : Star1 X e es := by exact rfl) (hpl : NoStar X es pos := by exact rfl)
    (ht : MethEq X o m apos (e :: es) pos pl := by exact rfl) :
    PE X (.Call (.Attribute o m apos) (e :: es) [] pos) (tMeth C m sp [] E0 ta t) :=
  let ⟨_, _, _, M, b, F⟩ := D.ex
  pe_meth he c M F hr b .nil passL ha hst hpl ht
theorem pe_meth0D {pl : Sem Bool} (he : PE X o ta) (c : Cls X.K C) (D : MOk X C m k sp) (hr : Room k X.A)
    (ht : MethEq X o m apos [] pos pl := by exact rfl) :
    PE X (.Call (.Attribute o m apos) [] [] pos) (tMeth C m sp [] E0 ta tNil) :=
  let ⟨_, _, _, M, b, F⟩ := D.ex
  pe_meth0 he c M F hr b .nil passL ht
/-- o.m(e, ..) whose errors reach W -/
def tMethW (C : Addr) (m : Str) (sp : Sp) (E : St → XK) (ta : TE) (t : TA) : TE := fun σ H Q => ta σ H fun x H1 => ∃ a dx fs, x = .ref a ∧ H1 a = some (.ins C dx fs) ∧ fs.lookup m = none ∧ t σ H1 fun vs H2 => sp (x :: vs) H2 Q (E σ)
theorem pe_methW {W : WX} {pl : Sem Bool} (tk : Takes X W) (he : PE X o ta) (c : Cls X.K C) (D : MOk X C m k sp) (hr : Room k X.A) (ha : PA X (e :: es) t)
    (hst : Star1 X e es := by exact rfl) (hpl : NoStar X es pos := by exact rfl)
    (ht : MethEq X o m apos (e :: es) pos pl := by exact rfl) :
    PE X (.Call (.Attribute o m apos) (e :: es) [] pos) (tMethW C m sp (WE W) ta t) := by
  obtain ⟨f, fd, ps, M, b, F⟩ := D.ex
  refine ⟨fun pins s σ H Q I h => PySem.W.methodCall_KW (pl := pl) (thn (he.run pins s σ H _ I h) ?_) ht⟩
  rintro u s1 ⟨x1, H1, I1, rx, a, dx, fs, rfl, ea, l, q⟩
  cases rx
  refine getmeth_ok I1 ea c M l (PySem.W.callWith_K (first := [.ref a]) (h₀ := X.base) I.ok.mod.kin M.kp (thn (ha.run pos pins s1 σ H1 _ I1 q) ?_) hst hpl)
  rintro us s2 ⟨vs, H2, I2, r, q2⟩
  exact ⟨I2.kIn, run_fnS (us := .ref a :: us) (vs := .ref a :: vs) F hr b (passAt tk σ) I2 (.cons rfl r) q2⟩
theorem pe_makeD (D : KOk X x C k sp) (hr : Room (k + 1) X.A) (hg : Gl X x) (ha : PA X (e :: es) t) (hdb : (x == ("__debug__" : Str)) = false := by decide)
    (he : Star1 X e es := by exact rfl) (hpl : NoStar X es pos := by exact rfl) : PE X (.Call (.Name x p) (e :: es) [] pos) (tMake C sp [] E0 t) :=
  let ⟨_, _, _, M, g, b, F⟩ := D.ex
  pe_make M F hr hg g b .nil passL ha hdb he hpl
theorem pmk_err {f : Str} (D : EOk X x C f) (hr : Room 2 X.A) (hg : Gl X x) (ha : PA X (e :: es) t) (hdb : (x == ("__debug__" : Str)) = false := by decide)
    (he : Star1 X e es := by exact rfl) (hpl : NoStar X es pos := by exact rfl) : PMk X (.Call (.Name x p) (e :: es) [] pos) (tErr C f t) := by
  obtain ⟨fI, fd, ps, iC, tI, b, F⟩ := D.ex
  intro pins s σ H Q I h
  refine pmk_oex (sp := spErr C f) D.oex iC tI F hr b .nil pass0 hg D.mgC (pa_up ha) hdb he hpl pins s σ H Q I ⟨_, h, ?_⟩
  rintro vs H1 ⟨v, rfl, k⟩
  refine ⟨by show 1 ≤ 1000; decide, fun a ha => ⟨a, v, rfl, upd_same, fun d hd hda => ⟨rfl, d, [(f, v)], upd_same, ?_, ?_, ?_⟩⟩⟩
  · rw [upd_ne hda]; exact upd_same
  · rw [upd_ne hda] at hd; exact hd
  · have hd1 : H1 d = none := by rw [upd_ne hda] at hd; exact hd
    refine k d _ hd1 (fun q o hq => ?_) upd_same
    have qd : q ≠ d := ne_of_none hq hd1
    have qa : q ≠ a := ne_of_none hq ha
    rw [upd_ne qd, del_ne qa, upd_ne qa, upd_ne qd, upd_ne qa]
    exact hq
end
/-! ### the same rules where the written part is told by a name of its own (within comprehensions) -/
section
variable {X : Cx} {K : PySem.W.Frag}
theorem ixL_k (h : X.K = K) : IxR X (rIxL K) := by subst h; exact ix_list
theorem ixT_k (h : X.K = K) : IxR X (rIxT K) := by subst h; exact ix_tup
theorem slL_k (h : X.K = K) : SlR X (rSlL K) := by subst h; exact sl_list
theorem slT_k (h : X.K = K) : SlR X (rSlT K) := by subst h; exact sl_tup
theorem eqD_k (hu : X.A.units + 64 < cLine) (h : X.K = K) : OpR X (compareOp .Eq) (rEqD K) := by subst h; exact op_eqD hu
theorem neD_k (hu : X.A.units + 64 < cLine) (h : X.K = K) : OpR X (compareOp .NotEq) (rNeD K) := by subst h; exact op_neD hu
theorem in_k (h : X.K = K) : OpR X (compareOp .In) (rIn K false) := by subst h; exact op_in_seq
theorem notIn_k (h : X.K = K) : OpR X (compareOp .NotIn) (rIn K true) := by subst h; exact op_notIn_seq
theorem len_k (h : X.K = K) : CallR X (.builtin "len") (rLenQ K) := by subst h; exact cq_len
theorem list_k (h : X.K = K) : CallR X (.type "list") (rListQ K) := by subst h; exact cq_list
theorem all_k (hc : X.calm = true) (h : X.K = K) : CallR X (.builtin "all") (rAll K) := by subst h; exact cr_all hc
theorem any_k (hc : X.calm = true) (h : X.K = K) : CallR X (.builtin "any") (rAny K) := by subst h; exact cr_any hc
theorem max_k (hc : X.calm = true) (h : X.K = K) : CallR X (.builtin "max") (rMax K) := by subst h; exact cr_max hc
theorem isi_k (h : X.K = K) : CallR X (.builtin "isinstance") (rIsi K) := by subst h; exact call_isi
theorem isiT_k (h : X.K = K) : CallR X (.builtin "isinstance") (rIsiT K) := by subst h; exact call_isiT
theorem fld_k {e : Expr} {ta : TE} {f : Str} {pos : Pos} (h : X.K = K) (he : PE X e ta) (hb : attributeBase e f X.env (eval e X.env) = eval e X.env) : PE X (.Attribute e f pos) (tFld K ta f) := by subst h; exact pe_fld he hb
theorem gtup_k {es : List Expr} {k : Nat} {t : TGs} {n : Nat} {pos : Pos} (h : X.K = K) (hc : X.calm = true) (hg : PGs X es t) (hn : (assignEach es X.env).length = n := by rfl) (hs : (assignEach es X.env).findIdx? (·.1) = none := by rfl) : PG X (.Tuple es k pos) (gTup K n t) := by subst h; exact pg_tup hc hg hn hs
theorem ilist_k {tg l : Expr} {tl : TE} (h : X.K = K) (hl : PE X l tl) : PI X tg l (iList K tl) := by subst h; exact pi_list hl
theorem itup_k {tg l : Expr} {tl : TE} (h : X.K = K) (hl : PE X l tl) : PI X tg l (iTup K tl) := by subst h; exact pi_tup hl
end
/-- behind raise X(e) -/
def ErrR (C : Addr) (f : Str) (vs : List V) (H1 : Hp) (Q : XK) : Prop := ∃ v, vs = [v] ∧ ∀ d H', H1 d = none → Same H1 H' → H' d = some (.xd [(f, v)]) → Q (.ref C) (some d) H'
theorem w_err {C : Addr} {f : Str} {ta : TA} {σ : St} {H : Hp} {Q : XK} (h : ta σ H fun vs H1 => ErrR C f vs H1 Q) : tErr C f ta σ H Q := h
theorem w_errGo {C : Addr} {f : Str} {v : V} {H : Hp} {Q : XK} (h : ∀ d H', H d = none → Same H H' → H' d = some (.xd [(f, v)]) → Q (.ref C) (some d) H') : ErrR C f [v] H Q := ⟨v, rfl, h⟩

/-! ### the walk: one lemma for each word of a reading -/
section
variable {σ : St} {H : Hp} {Q : VK} {D : Ends} {ta tb tc te : TE} {K : PySem.W.Frag}
theorem hg_new {H : Hp} {a b : Addr} {o u : HO} (h : H a = none) (q : H b = some u) : upd H a o b = some u := by rw [upd_ne (ne_of_none q h)]; exact q
theorem Same.new {H : Hp} {a : Addr} {o : HO} (h : H a = none) : Same H (upd H a o) := fun _ _ q => hg_new h q
theorem hg_ne {H : Hp} {a b : Addr} {o u : HO} (h : b ≠ a) (q : H b = some u) : upd H a o b = some u := by rw [upd_ne h]; exact q
theorem w_seq {t u : TS} (h : t { D with nx := u D } σ H) : tSeq t u D σ H := h
theorem w_next (h : D.nx σ H) : tNext D σ H := h
theorem w_asg {g : TG} (h : te σ H fun x H1 => g x σ H1 D.nx) : tAsg te g D σ H := h
theorem w_drop (h : te σ H fun _ H1 => D.nx σ H1) : tDrop te D σ H := h
theorem w_ret (h : te σ H D.rt) : tRet te D σ H := h
theorem w_if {c : TT} {t u : TS} (h : c σ H fun b H1 => if b = true then t D σ H1 else u D σ H1) : tIfS c t u D σ H := h
theorem w_name {i : Nat} {v : V} {R : St → Hp → Prop} (h : R (σ.set i (some v)) H) : gName i v σ H R := h
theorem w_sub {to ti : TE} {t : TSet} {v : V} {R : St → Hp → Prop} (h : to σ H fun o H1 => ti σ H1 fun i H2 => t o i v H2 fun H3 => R σ H3) : gSub to ti t v σ H R := h
theorem w_setL {p : Addr} {xs : List V} {k : Int} {j : Nat} {v : V} {R : Hp → Prop} (h : H p = some (.lst xs)) (hj : ixN xs.length k = some j) (q : R (upd H p (.lst (xs.set j v)))) : rSetL (.ref p) (.int k) v H R := ⟨p, xs, k, j, rfl, rfl, h, hj, q⟩
theorem w_var {i : Nat} {v : V} (h : σ[i]? = some (some v)) (q : Q v H) : tVar i σ H Q := ⟨v, h, q⟩
theorem w_c {v : V} (q : Q v H) : tC v σ H Q := q
theorem w_op {r : R2} (h : ta σ H fun x H1 => tb σ H1 fun y H2 => r x y H2 Q) : tOp r ta tb σ H Q := h
theorem w_un {r : V → Hp → VK → Prop} (h : ta σ H fun x H1 => r x H1 Q) : tUn r ta σ H Q := h
theorem w_U {g : Int → V} {i : Int} (q : Q (g i) H) : rU g (.int i) H Q := ⟨i, rfl, q⟩
theorem w_I0 {g : Int → Int → V} {i j : Int} (q : Q (g i j) H) : rI0 g (.int i) (.int j) H Q := ⟨i, j, rfl, rfl, q⟩
theorem w_I {C : Int → Int → Prop} {g : Int → Int → V} {i j : Int} (c : C i j) (q : Q (g i j) H) : rI C g (.int i) (.int j) H Q := ⟨i, j, rfl, rfl, c, q⟩
theorem w_eq {x y : V} (h : scal x y = true) (q : Q (.bl (decide (x = y))) H) : rEq x y H Q := ⟨h, q⟩
theorem w_ne {x y : V} (h : scal x y = true) (q : Q (.bl (!decide (x = y))) H) : rNe x y H Q := ⟨h, q⟩
theorem w_test {R : Bool → Hp → Prop} (h : te σ H fun x H1 => ∃ k, x = .bl k ∧ R k H1) : tTest te σ H R := h
theorem w_B {R : Bool → Hp → Prop} (h : te σ H fun x H1 => ∃ k, x = .bl k ∧ R k H1) : tB te σ H R := h
theorem w_bl {b : Bool} {R : Bool → Prop} (h : R b) : ∃ k, V.bl b = .bl k ∧ R k := ⟨b, rfl, h⟩
theorem w_not {t : TT} {R : Bool → Hp → Prop} (h : t σ H fun c H1 => R (!c) H1) : tNot t σ H R := h
theorem w_and {t u : TT} {R : Bool → Hp → Prop} (h : t σ H fun c H1 => if c = true then u σ H1 R else R false H1) : tAnd t u σ H R := h
theorem w_or {t u : TT} {R : Bool → Hp → Prop} (h : t σ H fun c H1 => if c = true then R true H1 else u σ H1 R) : tOr t u σ H R := h
theorem w_ifE {t : TT} (h : t σ H fun c H1 => if c = true then ta σ H1 Q else tb σ H1 Q) : tIf t ta tb σ H Q := h
theorem w_andV (h : ta σ H fun x H1 => ∃ c, x = .bl c ∧ if c = true then tb σ H1 Q else Q (.bl false) H1) : tAndV ta tb σ H Q := h
theorem w_orV (h : ta σ H fun x H1 => ∃ c, x = .bl c ∧ if c = true then Q (.bl true) H1 else tb σ H1 Q) : tOrV ta tb σ H Q := h
theorem w_notV (h : ta σ H fun x H1 => ∃ c, x = .bl c ∧ Q (.bl (!c)) H1) : tNotV ta σ H Q := h
theorem w_chain {r r' : R2} (h : ta σ H fun x H1 => tb σ H1 fun y H2 => r x y H2 fun z H3 => ∃ k, z = .bl k ∧ (if k = true then tc σ H3 fun w' H4 => r' y w' H4 Q else Q (.bl false) H3)) : tChain r r' ta tb tc σ H Q := h
theorem w_ixL {p : Addr} {xs : List V} {i : Int} {v : V} (h : H p = some (.lst xs)) (ha : atI xs i = some v) (q : Q v H) : rIxL K (.ref p) (.int i) H Q := ⟨p, xs, i, v, rfl, rfl, SqL.of h, ha, q⟩
theorem w_ixT {p : Addr} {xs : List V} {i : Int} {v : V} (h : H p = some (.tup xs)) (ha : atI xs i = some v) (q : Q v H) : rIxT K (.ref p) (.int i) H Q := ⟨p, xs, i, v, rfl, rfl, SqT.of h, ha, q⟩
theorem w_nil {R : List V → Hp → Prop} (q : R [] H) : tNil σ H R := q
theorem w_cons {tr : TA} {R : List V → Hp → Prop} (h : te σ H fun x H1 => tr σ H1 fun xs H2 => R (x :: xs) H2) : tCons te tr σ H R := h
abbrev LstR (xs : List V) (H1 : Hp) (Q : VK) : Prop := xs.length ≤ sizeLine ∧ ∀ p, H1 p = none → Q (.ref p) (upd H1 p (.lst xs))
abbrev TupR (xs : List V) (H1 : Hp) (Q : VK) : Prop := xs.length ≤ sizeLine ∧ ∀ p, H1 p = none → Q (.ref p) (upd H1 p (.tup xs))
theorem w_lst {t : TA} (h : t σ H fun xs H1 => LstR xs H1 Q) : tLst t σ H Q := h
theorem w_lstGo {xs : List V} (h : xs.length ≤ sizeLine) (k : ∀ p, H p = none → Q (.ref p) (upd H p (.lst xs))) : LstR xs H Q := ⟨h, k⟩
theorem w_tupGo' {xs : List V} (h : xs.length ≤ sizeLine) (k : ∀ p, H p = none → Q (.ref p) (upd H p (.tup xs))) : TupR xs H Q := ⟨h, k⟩
theorem w_tup {t : TA} (h : t σ H fun xs H1 => TupR xs H1 Q) : tTup t σ H Q := h
theorem w_cb {r : List V → Hp → VK → Prop} {t : TA} (h : t σ H fun vs H1 => r vs H1 Q) : tCB r t σ H Q := h
theorem w_bm {T : String} {r : V → List V → Hp → VK → Prop} {t : TA} (h : te σ H fun x H1 => tyV K T x H1 ∧ t σ H1 fun xs H2 => r x xs H2 Q) : tBM K T r te t σ H Q := h
theorem w_call {sp : Sp} {E : XK} {t : TA} (h : t σ H fun vs H1 => sp vs H1 Q E) : tCall sp [] E t σ H Q := by
  show t σ H fun vs H1 => sp (vs ++ []) H1 Q E
  have e : (fun vs H1 => sp (vs ++ []) H1 Q E) = fun vs H1 => sp vs H1 Q E := by funext vs H1; rw [List.append_nil]
  rw [e]; exact h
theorem w_tyL {p : Addr} {xs : List V} {A : Prop} (h : H p = some (.lst xs)) (q : A) : tyV K "list" (.ref p) H ∧ A := ⟨.inl ⟨rfl, xs, SqL.of h⟩, q⟩
theorem w_pop0 {l : Addr} {y : V} {r : List V} (h : H l = some (.lst (y :: r))) (q : Q y (upd H l (.lst r))) : rPopAt (.ref l) [.int 0] H Q :=
  ⟨l, y :: r, 0, 0, y, rfl, rfl, h, by decide, by decide, by
    unfold seqIndex?
    simp, rfl, q⟩
theorem w_app {l : Addr} {y : V} {xs : List V} (h : H l = some (.lst xs)) (hz : xs.length < sizeLine) (q : Q .non (upd H l (.lst (xs ++ [y])))) : rAppend (.ref l) [y] H Q := ⟨l, xs, y, rfl, rfl, h, hz, q⟩
theorem w_int1 {i : Int} (q : Q (.int i) H) : rInt1 [.int i] H Q := ⟨i, rfl, q⟩
theorem w_len {p : Addr} {xs : List V} (h : H p = some (.lst xs)) (q : Q (.int xs.length) H) : rLenQ K [.ref p] H Q := ⟨p, xs, rfl, .inl (SqL.of h), q⟩
theorem w_lenT {p : Addr} {xs : List V} (h : H p = some (.tup xs)) (q : Q (.int xs.length) H) : rLenQ K [.ref p] H Q := ⟨p, xs, rfl, .inr (SqT.of h), q⟩
theorem w_list {p : Addr} {xs : List V} (h : H p = some (.lst xs)) (q : ∀ l, H l = none → Q (.ref l) (upd H l (.lst xs))) : rListQ K [.ref p] H Q := ⟨p, xs, rfl, .inl (SqL.of h), q⟩
theorem w_max {i j : Int} (q : Q (.int (if j > i then j else i)) H) : rMax2 [.int i, .int j] H Q := ⟨i, j, rfl, q⟩
theorem w_min {i j : Int} (q : Q (.int (if j < i then j else i)) H) : rMin2 [.int i, .int j] H Q := ⟨i, j, rfl, q⟩
theorem w_while {t : TT} {tb : TS} {D : Ends} {σ : St} {H : Hp} (W : Nat → St → Hp → Prop) (Z : St → Hp → Prop) (m : Nat) (h0 : W m σ H) (hz : ∀ σ H, Z σ H → D.nx σ H)
    (h : ∀ m σ H, W m σ H → t σ H fun b H1 => if b = true then tb { D with nx := fun σ' H' => ∃ m', m' < m ∧ W m' σ' H', ct := fun σ' H' => ∃ m', m' < m ∧ W m' σ' H', bk := D.nx } σ H1 else Z σ H1) : tWhile (tUpT t) tb D σ H :=
  ⟨W, ⟨m, h0⟩, fun m σ H w => ⟨_, h m σ H w, fun b H1 q => by
    cases b with
    | true => exact ⟨_, fun _ _ n => n, q⟩
    | false => exact hz _ _ q⟩⟩
end
theorem w_ite {p A B : Prop} [Decidable p] (h1 : p → A) (h2 : ¬ p → B) : if decide p = true then A else B := by
  by_cases h : p
  · rw [if_pos (decide_eq_true h)]; exact h1 h
  · rw [if_neg (by rw [decide_eq_false h]; exact Bool.false_ne_true)]; exact h2 h
theorem w_iteNT {A B : Prop} (h : B) : if (!true) = true then A else B := iteF h
theorem w_iteNF {A B : Prop} (h : A) : if (!false) = true then A else B := iteT h
theorem w_iteSame {α : Type} {a : α} {i : Decidable (a = a)} {A B : Prop} (h : A) : if @decide (a = a) i = true then A else B := by rw [if_pos (decide_eq_true rfl)]; exact h
theorem w_iteNSame {α : Type} {a : α} {i : Decidable (a = a)} {A B : Prop} (h : B) : if (!@decide (a = a) i) = true then A else B := by rw [decide_eq_true (rfl : a = a)]; exact iteF h
theorem decSame {α : Type} {a : α} {i : Decidable (a = a)} : @decide (a = a) i = true := decide_eq_true rfl
theorem w_iteI {x y : Int} {A B : Prop} (h1 : x = y → A) (h2 : ¬ x = y → B) : if decide (V.int x = V.int y) = true then A else B :=
  w_ite (fun h => h1 (V.int.inj h)) (fun h => h2 fun e => h (by rw [e]))
theorem w_iteNI {x y : Int} {A B : Prop} (h1 : ¬ x = y → A) (h2 : x = y → B) : if (!decide (V.int x = V.int y)) = true then A else B := by
  by_cases h : x = y
  · subst h; rw [decide_eq_true rfl]; exact iteF (h2 rfl)
  · rw [decide_eq_false (fun e => h (V.int.inj e))]; exact iteT (h1 h)
theorem w_iteN {b : Bool} {A B : Prop} (h1 : b = false → A) (h2 : b = true → B) : if (!b) = true then A else B := by
  cases b with
  | true => exact iteF (h2 rfl)
  | false => exact iteT (h1 rfl)
theorem w_iteB {b : Bool} {A B : Prop} (h1 : b = true → A) (h2 : b = false → B) : if b = true then A else B := by
  cases b with
  | true => exact iteT (h1 rfl)
  | false => exact iteF (h2 rfl)
theorem Dp.ints {K : PySem.W.Frag} {H : Hp} : ∀ xs : List Int, DpAll K H (xs.map V.int) (xs.map PyData.int)
  | [] => .nil
  | x :: r => .cons (.int x) (Dp.ints r)
theorem lay_ints : ∀ xs : List Int, PyData.canLayAll0 (xs.map PyData.int) = true
  | [] => by simp [PyData.canLayAll0]
  | x :: r => by simp [PyData.canLayAll0, PyData.canLay0, lay_ints r]
theorem depth_ints : ∀ xs : List Int, PyData.depthAll (xs.map PyData.int) = 0
  | [] => by simp [PyData.depthAll]
  | x :: r => by simp [PyData.depthAll, PyData.depth, depth_ints r]
theorem shaped_ints (xs : List Int) : SeqAt.shaped (.list (xs.map PyData.int)) = true := by
  unfold SeqAt.shaped
  rw [Bool.and_eq_true]
  exact ⟨by simp only [PyData.canLay0]; exact lay_ints xs, decide_eq_true (by simp only [PyData.depth, depth_ints]; omega)⟩
/-! ### is None -/
section
variable {H : Hp} {Q : VK}
def rIsNn : R2 := fun x y H Q => y = .non ∧ Q (.bl (decide (x = .non))) H
def rNotNn : R2 := fun x y H Q => y = .non ∧ Q (.bl (!decide (x = .non))) H
theorem cq_isN {X : Cx} : OpR X (compareOp .Is) rIsNn := op_isN
theorem cq_notN {X : Cx} : OpR X (compareOp .IsNot) rNotNn := op_notN
theorem w_isN {x : V} (q : Q (.bl (decide (x = .non))) H) : rIsNn x .non H Q := ⟨rfl, q⟩
theorem w_notN {x : V} (q : Q (.bl (!decide (x = .non))) H) : rNotNn x .non H Q := ⟨rfl, q⟩
theorem w_iteIntNon {i : Int} {d : Decidable (V.int i = V.non)} {A B : Prop} (h : B) : if @decide (V.int i = V.non) d = true then A else B := by
  rw [decide_eq_false (fun z => by cases z)]; exact iteF h
theorem w_iteStrNe {x y : Str} {d : Decidable (V.str x = V.str y)} {A B : Prop} (n : ¬ x = y) (h : B) : if @decide (V.str x = V.str y) d = true then A else B := by
  rw [decide_eq_false (fun z => n (V.str.inj z))]; exact iteF h
theorem w_iteNStrNe {x y : Str} {d : Decidable (V.str x = V.str y)} {A B : Prop} (n : ¬ x = y) (h : A) : if (!@decide (V.str x = V.str y) d) = true then A else B := by
  rw [decide_eq_false (fun z => n (V.str.inj z))]; exact iteT h
theorem w_iteNonInt {i : Int} {d : Decidable (V.non = V.int i)} {A B : Prop} (h : B) : if @decide (V.non = V.int i) d = true then A else B := by
  rw [decide_eq_false (fun z => by cases z)]; exact iteF h
theorem w_iteNIntNon {i : Int} {d : Decidable (V.int i = V.non)} {A B : Prop} (h : A) : if (!@decide (V.int i = V.non) d) = true then A else B := by
  rw [decide_eq_false (fun z => by cases z)]; exact iteT h
end
/-! ### a, b = e1, e2 -/
section
variable {σ : St} {H : Hp} {D : Ends} {ta : TA}
def ParR (i j : Nat) (D : Ends) (σ : St) (vs : List V) (H1 : Hp) : Prop := ∃ v w, vs = [v, w] ∧ D.nx ((σ.set i (some v)).set j (some w)) H1
def ParR3 (i j l : Nat) (D : Ends) (σ : St) (vs : List V) (H1 : Hp) : Prop := ∃ u v w, vs = [u, v, w] ∧ D.nx (((σ.set i (some u)).set j (some v)).set l (some w)) H1
theorem w_par {i j : Nat} (h : ta σ H fun vs H1 => ParR i j D σ vs H1) : tPar i j ta D σ H := h
theorem w_par3 {i j l : Nat} (h : ta σ H fun vs H1 => ParR3 i j l D σ vs H1) : tPar3 i j l ta D σ H := h
theorem w_parGo {i j : Nat} {v w : V} (h : D.nx ((σ.set i (some v)).set j (some w)) H) : ParR i j D σ [v, w] H := ⟨v, w, rfl, h⟩
theorem w_parGo3 {i j l : Nat} {u v w : V} (h : D.nx (((σ.set i (some u)).set j (some v)).set l (some w)) H) : ParR3 i j l D σ [u, v, w] H := ⟨u, v, w, rfl, h⟩
end
/-! ### x += e -/
section
variable {σ : St} {H : Hp} {D : Ends} {te : TE}
theorem w_aug {i : Nat} {ti : TIp} {x : V} (h : σ[i]? = some (some x)) (q : te σ H fun y H1 => ti x y H1 fun z H2 => D.nx (σ.set i (some z)) H2) : tAug i te ti D σ H := ⟨x, h, q⟩
theorem w_ipI {f : Int → Int → Int} {i j : Int} {Q : VK} (q : Q (.int (f i j)) H) : ipI f (.int i) (.int j) H Q := ⟨i, j, rfl, rfl, q⟩
end
/-! ### slices -/
section
variable {σ : St} {H : Hp} {Q : VK} {te : TE} {tl th : TO} {K : PySem.W.Frag}
def PartR (R : Option Int → Hp → Prop) (x : V) (H1 : Hp) : Prop := ∃ i, x = .int i ∧ R (some i) H1
theorem w_sl {r : V → Option Int → Option Int → Hp → VK → Prop} (h : te σ H fun x H1 => tl σ H1 fun l H2 => th σ H2 fun u H3 => r x l u H3 Q) : tSl r te tl th σ H Q := h
theorem w_part {R : Option Int → Hp → Prop} (h : te σ H fun x H1 => PartR R x H1) : tPart te σ H R := h
theorem w_nopart {R : Option Int → Hp → Prop} (h : R none H) : tNoPart σ H R := h
theorem w_cat {a b : Addr} {xs ys : List V} (h1 : H a = some (.lst xs)) (h2 : H b = some (.lst ys)) (hz : xs.length + ys.length ≤ sizeLine) (k : ∀ p, H p = none → Q (.ref p) (upd H p (.lst (xs ++ ys)))) : rCat (.ref a) (.ref b) H Q := ⟨a, b, xs, ys, rfl, rfl, h1, h2, hz, k⟩
theorem w_partGo {R : Option Int → Hp → Prop} {i : Int} (h : R (some i) H) : PartR R (.int i) H := ⟨i, rfl, h⟩
theorem w_slL {a : Addr} {xs : List V} {lo hi : Option Int} (h : H a = some (.lst xs)) (k : ∀ p, H p = none → Q (.ref p) (upd H p (.lst (cutV xs lo hi)))) : rSlL K (.ref a) lo hi H Q := ⟨a, xs, rfl, SqL.of h, k⟩
end
/-! ### instances -/
section
variable {σ : St} {H : Hp} {Q : VK} {D : Ends} {ta tv : TE} {t : TA} {K : PySem.W.Frag} {C dx a : Addr} {fs : List (Str × V)} {f m : Str} {v y : V} {sp : Sp} {E : XK}
def FldR (K : PySem.W.Frag) (f : Str) (x : V) (H1 : Hp) (Q : VK) : Prop := ∃ a C dx fs v, x = .ref a ∧ H1 a = some (.ins C dx fs) ∧ Cls K C ∧ NoAttr K C f ∧ fs.lookup f = some v ∧ Q v H1
def SFldR (K : PySem.W.Frag) (f : Str) (y x : V) (H2 : Hp) (R : Hp → Prop) : Prop := ∃ a C dx fs, x = .ref a ∧ H2 a = some (.ins C dx fs) ∧ Cls K C ∧ NoAttr K C f ∧ fs.length < 1000 ∧ R (upd H2 a (.ins C dx (putF f y fs)))
def MakeR (C : Addr) (sp : Sp) (vs : List V) (H1 : Hp) (Q : VK) (E : XK) : Prop := ∀ x dx, H1 x = none → H1 dx = none → dx ≠ x → sp (.ref x :: vs) (upd (upd H1 dx (.own x)) x (.ins C dx [])) (fun v H2 => v = .non ∧ Q (.ref x) H2) E
def MethR (C : Addr) (m : Str) (sp : Sp) (E : XK) (t : TA) (σ : St) (x : V) (H1 : Hp) (Q : VK) : Prop := ∃ a dx fs, x = .ref a ∧ H1 a = some (.ins C dx fs) ∧ fs.lookup m = none ∧ t σ H1 fun vs H2 => sp (x :: vs) H2 Q E
theorem w_fld (h : ta σ H fun x H1 => FldR K f x H1 Q) : tFld K ta f σ H Q := h
theorem w_fldGo (h : H a = some (.ins C dx fs)) (c : Cls K C) (n : NoAttr K C f) (l : fs.lookup f = some v) (q : Q v H) : FldR K f (.ref a) H Q := ⟨a, C, dx, fs, v, rfl, h, c, n, l, q⟩
theorem w_sfld (h : tv σ H fun y H1 => ta σ H1 fun x H2 => SFldR K f y x H2 fun H3 => D.nx σ H3) : sFld K ta tv f D σ H := h
theorem w_sfldGo {R : Hp → Prop} (h : H a = some (.ins C dx fs)) (c : Cls K C) (n : NoAttr K C f) (l : fs.length < 1000) (q : R (upd H a (.ins C dx (putF f y fs)))) : SFldR K f y (.ref a) H R := ⟨a, C, dx, fs, rfl, h, c, n, l, q⟩
theorem w_make (h : t σ H fun vs H1 => MakeR C sp vs H1 Q E) : tMake C sp [] E t σ H Q := by
  have e : (fun vs H1 => MakeR C sp vs H1 Q E) = fun vs H1 => MakeR C sp (vs ++ []) H1 Q E := by funext vs H1; rw [List.append_nil]
  rw [e] at h
  exact h
theorem w_meth (h : ta σ H fun x H1 => MethR C m sp E t σ x H1 Q) : tMeth C m sp [] E ta t σ H Q := by
  have e : (fun x H1 => MethR C m sp E t σ x H1 Q) = fun x H1 => ∃ a dx fs, x = .ref a ∧ H1 a = some (.ins C dx fs) ∧ fs.lookup m = none ∧ t σ H1 fun vs H2 => sp (x :: (vs ++ [])) H2 Q E := by
    funext x H1; unfold MethR; simp only [List.append_nil]
  rw [e] at h
  exact h
theorem w_methGo (h : H a = some (.ins C dx fs)) (l : fs.lookup m = none) (q : t σ H fun vs H2 => sp (.ref a :: vs) H2 Q E) : MethR C m sp E t σ (.ref a) H Q := ⟨a, dx, fs, rfl, h, l, q⟩
theorem w_methW {E : St → XK} (h : ta σ H fun x H1 => MethR C m sp (E σ) t σ x H1 Q) : tMethW C m sp E ta t σ H Q := h
def XfR (a : Addr) (cls : Value) (d : Option Addr) (C : Addr) (f : Str) (x : V) (H1 : Hp) (Q : VK) : Prop := x = .ref a ∧ cls = .ref C ∧ ∃ (dd : Addr) (fs : List (Str × V)) (v : V), d = some dd ∧ H1 dd = some (.xd fs) ∧ fs.lookup f = some v ∧ Q v H1
theorem w_xf {cls : Value} {d : Option Addr} (h : ta σ H fun x H1 => XfR a cls d C f x H1 Q) : tXf a cls d C f ta σ H Q := h
theorem w_xfGo {d : Addr} (h : H d = some (.xd fs)) (l : fs.lookup f = some v) (q : Q v H) : XfR a (.ref C) (some d) C f (.ref a) H Q := ⟨rfl, rfl, d, fs, v, rfl, h, l, q⟩
theorem lk_no {f g : Str} {v : V} (h : ¬ g = f) : List.lookup g [(f, v)] = none := by
  have q : (g == f) = false := by simpa using h
  simp [List.lookup, q]
theorem lk_one {f : Str} {v : V} : List.lookup f [(f, v)] = some v := by simp [List.lookup]
end
/-! ### isinstance of plain values -/
section
variable {σ : St} {H : Hp} {Q : VK} {K : PySem.W.Frag}
def kitL (a : String) : List String → Option Bool
  | [] => some false
  | b :: r => match kitB a b with
    | some true => some true
    | some false => kitL a r
    | none => none
theorem kitL_ok {a : String} : ∀ {bs : List String} {r : Bool}, kitL a bs = some r → PySem.W.kitAny K (.type a) (bs.map Value.type) = some r
  | [], r, h => h
  | b :: bs, r, h => by
    unfold kitL at h
    cases e : kitB a b with
    | none => rw [e] at h; cases h
    | some z =>
      rw [e] at h
      cases z with
      | true => exact kitAny_cons (kit_ty e) (fun z => nomatch z) (fun _ => (Option.some.inj h).symm)
      | false => exact kitAny_cons (kit_ty e) (fun _ => kitL_ok h) (fun z => nomatch z)
theorem clsTys : ∀ bs : List String, Paired ClsV (bs.map V.ty) (bs.map Value.type)
  | [] => .nil
  | b :: r => .cons (.ty b) (clsTys r)
theorem w_isi {x : V} {a b : String} {r : Bool} (ty : TyX K H x (.type a)) (h : kitB a b = some r) (q : Q (.bl r) H) : rIsi K [x, .ty b] H Q := ⟨x, .ty b, .type a, .type b, r, rfl, .ty b, ty, kit_ty h, q⟩
theorem w_isB {a b : Bool} (q : Q (.bl (decide (a = b))) H) : rIsB (.bl a) (.bl b) H Q := ⟨a, b, rfl, rfl, q⟩
theorem w_isiT {x : V} {tp : Addr} {a : String} {r : Bool} {cs : List V} (bs : List String) (hT : H tp = some (.tup cs)) (hc : cs = bs.map V.ty) (ty : TyX K H x (.type a)) (h : kitL a bs = some r) (q : Q (.bl r) H) : rIsiT K [x, .ref tp] H Q := ⟨x, tp, bs.map V.ty, .type a, bs.map Value.type, r, rfl, hc ▸ hT, clsTys bs, ty, kitL_ok h, q⟩
end
/-! ### loops and comprehensions, by what they walk -/
section
variable {σ : St} {H : Hp} {Q : VK} {D : Ends} {g : TG} {tt : TT} {te : TE} {tb : TS} {vs : List Nat} {wi : TI} {ta : TA} {K : PySem.W.Frag} {R : It → Hp → Prop}
def LcIt (g : TG) (tt : TT) (te : TE) (vs : List Nat) (σ : St) (Q : VK) (J : It) (H1 : Hp) : Prop := ∀ D, H1 D = none → ∃ W : Nat → Nat → Hp → Prop, (∃ m, W 0 m (upd H1 D (.lst []))) ∧ ∀ i m H, W i m H →
  (J.stop i H ∧ Q (.ref D) H) ∨ (J.go i H ∧ ∃ Nx : Hp → Prop, (∀ H', Nx H' → ∃ m', m' < m ∧ W (i + 1) m' H') ∧ ∀ x H', J.yld i H x H' → g x (wipe σ vs) H' fun σ2 H2 => wipe σ2 vs = wipe σ vs ∧ tt σ2 H2 fun b H3 =>
    if b = true then te σ2 H3 fun y H4 => ∃ acc, H4 D = some (.lst acc) ∧ acc.length < sizeLine ∧ Nx (upd H4 D (.lst (acc ++ [y]))) else Nx H3)
/-- one turn of a comprehension: x is the item, D the list that is made -/
def LcTurn (g : TG) (tt : TT) (te : TE) (vs : List Nat) (σ : St) (D : Addr) (Nx : Hp → Prop) (x : V) (H : Hp) : Prop := g x (wipe σ vs) H fun σ2 H2 => wipe σ2 vs = wipe σ vs ∧ tt σ2 H2 fun b H3 =>
  if b = true then te σ2 H3 fun y H4 => ∃ acc, H4 D = some (.lst acc) ∧ acc.length < sizeLine ∧ Nx (upd H4 D (.lst (acc ++ [y]))) else Nx H3
def ForIt (g : TG) (tb : TS) (D : Ends) (σ : St) (J : It) (H1 : Hp) : Prop := ∃ W : Nat → Nat → St → Hp → Prop, (∃ m, W 0 m σ H1) ∧ ∀ i m σ H, W i m σ H →
  (J.stop i H ∧ D.nx σ H) ∨ (J.go i H ∧ ∃ N : St → Hp → Prop, (∀ σ' H', N σ' H' → ∃ m', m' < m ∧ W (i + 1) m' σ' H') ∧ ∀ x H', J.yld i H x H' → g x σ H' fun σ2 H2 => tb { D with nx := N, ct := N, bk := D.nx } σ2 H2)
def Rng1 (vs : List V) (R : It → Hp → Prop) (H1 : Hp) : Prop := ∃ j : Int, vs = [.int j] ∧ -(2 ^ 62) ≤ j ∧ j < 2 ^ 62 ∧ R (Itr 0 j.toNat) H1
def ListI (K : PySem.W.Frag) (x : V) (R : It → Hp → Prop) (H1 : Hp) : Prop := ∃ a, x = .ref a ∧ (∃ xs, SqL K H1 a xs) ∧ R (Itl K a) H1
def TupI (K : PySem.W.Frag) (x : V) (R : It → Hp → Prop) (H1 : Hp) : Prop := ∃ a, x = .ref a ∧ (∃ xs, SqT K H1 a xs) ∧ R (Itt K a) H1
def ZipI (K : PySem.W.Frag) (vs : List V) (R : It → Hp → Prop) (H1 : Hp) : Prop := ∃ a b xs ys, vs = [.ref a, .ref b] ∧ ((SqL K H1 a xs ∧ SqL K H1 b ys ∧ R (Itz K a b) H1) ∨ (SqT K H1 a xs ∧ SqT K H1 b ys ∧ R (ItzT K a b) H1))
theorem w_lc (h : wi σ H fun J H1 => LcIt g tt te vs σ Q J H1) : tLc wi g tt te vs σ H Q := h
theorem w_for (h : wi σ H fun J H1 => ForIt g tb D σ J H1) : tFor wi g tb D σ H := h
theorem w_rng1 (h : ta σ H fun vs H1 => Rng1 vs R H1) : iRng1 ta σ H R := h
theorem w_listI (h : te σ H fun x H1 => ListI K x R H1) : iList K te σ H R := h
theorem w_tupI (h : te σ H fun x H1 => TupI K x R H1) : iTup K te σ H R := h
theorem w_zipI (h : ta σ H fun vs H1 => ZipI K vs R H1) : iZipA K ta σ H R := h
theorem w_yes {R : Bool → Hp → Prop} (h : R true H) : tYes σ H R := h
theorem w_rngGo {m : Nat} (hm : m < 1000000) (h : R (Itr 0 m) H) : Rng1 [.int (m : Nat)] R H := ⟨m, rfl, by omega, by omega, by rw [Int.toNat_natCast]; exact h⟩
theorem w_rngGoI {j : Int} (hm : j < 1000000) (h0 : 0 ≤ j) (h : R (Itr 0 j.toNat) H) : Rng1 [.int j] R H := ⟨j, rfl, by omega, by omega, h⟩
theorem w_maxL {a : Addr} {ns : List Int} (h : H a = some (.lst (ns.map V.int))) (hz : 0 < ns.length) (k : ∀ m, m ∈ ns → (∀ y, y ∈ ns → y ≤ m) → Q (.int m) H) : rMax K [.ref a] H Q := ⟨a, ns, rfl, SqL.of h, hz, k⟩
theorem w_listGo {a : Addr} {xs : List V} (hx : H a = some (.lst xs)) (h : R (Itl K a) H) : ListI K (.ref a) R H := ⟨a, rfl, ⟨xs, SqL.of hx⟩, h⟩
theorem w_tupGo {a : Addr} {xs : List V} (hx : H a = some (.tup xs)) (h : R (Itt K a) H) : TupI K (.ref a) R H := ⟨a, rfl, ⟨xs, SqT.of hx⟩, h⟩
theorem w_zipGo {a b : Addr} {xs ys : List V} (hx : H a = some (.lst xs)) (hy : H b = some (.lst ys)) (h : R (Itz K a b) H) : ZipI K [.ref a, .ref b] R H := ⟨a, b, xs, ys, rfl, .inl ⟨SqL.of hx, SqL.of hy, h⟩⟩
theorem w_zipGoT {a b : Addr} {xs ys : List V} (hx : H a = some (.tup xs)) (hy : H b = some (.tup ys)) (h : R (ItzT K a b) H) : ZipI K [.ref a, .ref b] R H := ⟨a, b, xs, ys, rfl, .inr ⟨SqT.of hx, SqT.of hy, h⟩⟩
theorem w_lcR {m : Nat} (Pv : Addr → Nat → Hp → Prop) (h0 : ∀ D, H D = none → Pv D 0 (upd H D (.lst []))) (hs : ∀ D i H1, H D = none → i < m → Pv D i H1 → LcTurn g tt te vs σ D (Pv D (i + 1)) (.int (i : Nat)) H1) (hd : ∀ D H1, H D = none → Pv D m H1 → Q (.ref D) H1) : LcIt g tt te vs σ Q (Itr 0 m) H :=
  fun D hD => lc_range (lo := 0) (n := m) (Pv D) (h0 D hD) (fun i H1 hi p => by
    have e : (0 : Int) + (i : Nat) = (i : Nat) := Int.zero_add _
    rw [e]; exact hs D i H1 hD hi p) (fun H1 p => hd D H1 hD p)
theorem w_lcT {a : Addr} {xs : List V} (Pv : Addr → Nat → Hp → Prop) (h0 : ∀ D, H D = none → Pv D 0 (upd H D (.lst []))) (hl : ∀ D i H1, H D = none → i ≤ xs.length → Pv D i H1 → H1 a = some (.tup xs)) (hs : ∀ D i x H1, H D = none → xs[i]? = some x → Pv D i H1 → LcTurn g tt te vs σ D (Pv D (i + 1)) x H1) (hd : ∀ D H1, H D = none → Pv D xs.length H1 → Q (.ref D) H1) : LcIt g tt te vs σ Q (Itt K a) H :=
  fun D hD => lc_tup (K := K) (a := a) (xs := xs) (Pv D) (h0 D hD) (fun i H1 hi p => SqT.of (hl D i H1 hD hi p)) (fun i x H1 hx p => hs D i x H1 hD hx p) (fun H1 p => hd D H1 hD p)
theorem w_lcL {a : Addr} {xs : List V} (Pv : Addr → Nat → Hp → Prop) (h0 : ∀ D, H D = none → Pv D 0 (upd H D (.lst []))) (hl : ∀ D i H1, H D = none → i ≤ xs.length → Pv D i H1 → H1 a = some (.lst xs)) (hs : ∀ D i x H1, H D = none → xs[i]? = some x → Pv D i H1 → LcTurn g tt te vs σ D (Pv D (i + 1)) x H1) (hd : ∀ D H1, H D = none → Pv D xs.length H1 → Q (.ref D) H1) : LcIt g tt te vs σ Q (Itl K a) H :=
  fun D hD => lc_list (K := K) (a := a) (xs := xs) (Pv D) (h0 D hD) (fun i H1 hi p => SqL.of (hl D i H1 hD hi p)) (fun i x H1 hx p => hs D i x H1 hD hx p) (fun H1 p => hd D H1 hD p)
theorem w_lcZ {a b : Addr} {xs ys : List V} (hl : xs.length = ys.length) (Pv : Addr → Nat → Hp → Prop) (h0 : ∀ D, H D = none → Pv D 0 (upd H D (.lst []))) (hq : ∀ D i H1, H D = none → Pv D i H1 → H1 a = some (.lst xs) ∧ H1 b = some (.lst ys)) (hs : ∀ D i x y T H1, H D = none → xs[i]? = some x → ys[i]? = some y → Pv D i H1 → H1 T = none → LcTurn g tt te vs σ D (Pv D (i + 1)) (.ref T) (upd H1 T (.tup [x, y]))) (hd : ∀ D H1, H D = none → Pv D xs.length H1 → Q (.ref D) H1) : LcIt g tt te vs σ Q (Itz K a b) H := fun D hD => by
  refine ⟨fun i m H => m = xs.length - i ∧ i ≤ xs.length ∧ Pv D i H, ⟨xs.length, rfl, Nat.zero_le _, h0 D hD⟩, ?_⟩
  rintro i m H ⟨rfl, hi, p⟩
  have qx := SqL.of (K := K) (hq D i H hD p).1
  have qy := SqL.of (K := K) (hq D i H hD p).2
  rcases Nat.lt_or_ge i xs.length with hlt | hge
  · have hx := List.getElem?_eq_getElem hlt
    have hy := List.getElem?_eq_getElem (show i < ys.length by omega)
    refine .inr ⟨⟨xs, ys, _, _, qx, qy, hx, hy⟩, Pv D (i + 1), fun H' p' => ⟨xs.length - (i + 1), by omega, rfl, hlt, p'⟩, ?_⟩
    rintro v H' ⟨T, x', y', rfl, hT, rfl, f1, f2⟩
    exact hs D i x' y' T H hD (f1 xs qx) (f2 ys qy) p hT
  · obtain rfl : i = xs.length := by omega
    exact .inl ⟨⟨xs, ys, qx, qy, Or.inl (Nat.le_refl _)⟩, hd D H hD p⟩
theorem w_lcZT {a b : Addr} {xs ys : List V} (hl : xs.length = ys.length) (Pv : Addr → Nat → Hp → Prop) (h0 : ∀ D, H D = none → Pv D 0 (upd H D (.lst []))) (hq : ∀ D i H1, H D = none → Pv D i H1 → H1 a = some (.tup xs) ∧ H1 b = some (.tup ys)) (hs : ∀ D i x y T H1, H D = none → xs[i]? = some x → ys[i]? = some y → Pv D i H1 → H1 T = none → LcTurn g tt te vs σ D (Pv D (i + 1)) (.ref T) (upd H1 T (.tup [x, y]))) (hd : ∀ D H1, H D = none → Pv D xs.length H1 → Q (.ref D) H1) : LcIt g tt te vs σ Q (ItzT K a b) H := fun D hD => by
  refine ⟨fun i m H => m = xs.length - i ∧ i ≤ xs.length ∧ Pv D i H, ⟨xs.length, rfl, Nat.zero_le _, h0 D hD⟩, ?_⟩
  rintro i m H ⟨rfl, hi, p⟩
  have qx := SqT.of (K := K) (hq D i H hD p).1
  have qy := SqT.of (K := K) (hq D i H hD p).2
  rcases Nat.lt_or_ge i xs.length with hlt | hge
  · have hx := List.getElem?_eq_getElem hlt
    have hy := List.getElem?_eq_getElem (show i < ys.length by omega)
    refine .inr ⟨⟨xs, ys, _, _, qx, qy, hx, hy⟩, Pv D (i + 1), fun H' p' => ⟨xs.length - (i + 1), by omega, rfl, hlt, p'⟩, ?_⟩
    rintro v H' ⟨T, x', y', rfl, hT, rfl, f1, f2⟩
    exact hs D i x' y' T H hD (f1 xs qx) (f2 ys qy) p hT
  · obtain rfl : i = xs.length := by omega
    exact .inl ⟨⟨xs, ys, qx, qy, Or.inl (Nat.le_refl _)⟩, hd D H hD p⟩
theorem w_gtup {k : Nat} {gs : TGs} {T : Addr} {xs : List V} {R : St → Hp → Prop} (h : H T = some (.tup xs)) (hl : xs.length = k) (q : gs xs σ H R) : gTup K k gs (.ref T) σ H R := ⟨T, xs, rfl, SqT.of h, hl, q⟩
theorem w_gcons {g : TG} {gs : TGs} {x : V} {r : List V} {R : St → Hp → Prop} (h : g x σ H fun σ' H' => gs r σ' H' R) : gCons g gs (x :: r) σ H R := ⟨x, r, rfl, h⟩
theorem w_gnil {R : St → Hp → Prop} (h : R σ H) : gNil [] σ H R := ⟨rfl, h⟩
theorem w_forR {m : Nat} (Pv : Nat → St → Hp → Prop) (h0 : Pv 0 σ H) (hs : ∀ i σ H, i < m → Pv i σ H → g (.int (i : Nat)) σ H fun σ2 H2 => tb { D with nx := Pv (i + 1), ct := Pv (i + 1), bk := D.nx } σ2 H2) (hd : ∀ σ H, Pv m σ H → D.nx σ H) : ForIt g tb D σ (Itr 0 m) H :=
  for_range (lo := 0) (n := m) Pv h0 (fun i σ H1 hi p => by
    have e : (0 : Int) + (i : Nat) = (i : Nat) := Int.zero_add _
    rw [e]; exact hs i σ H1 hi p) hd
theorem w_forL {a : Addr} {xs : List V} (Pv : Nat → St → Hp → Prop) (h0 : Pv 0 σ H) (hl : ∀ i σ H, i ≤ xs.length → Pv i σ H → H a = some (.lst xs)) (hs : ∀ i x σ H, xs[i]? = some x → Pv i σ H → g x σ H fun σ2 H2 => tb { D with nx := Pv (i + 1), ct := Pv (i + 1), bk := D.nx } σ2 H2) (hd : ∀ σ H, Pv xs.length σ H → D.nx σ H) : ForIt g tb D σ (Itl K a) H :=
  for_list (K := K) (a := a) (xs := xs) Pv h0 (fun i σ H1 hi p => SqL.of (hl i σ H1 hi p)) hs hd
theorem w_turn {D : Addr} {Nx : Hp → Prop} {x : V} (h : g x (wipe σ vs) H fun σ2 H2 => wipe σ2 vs = wipe σ vs ∧ tt σ2 H2 fun b H3 => if b = true then te σ2 H3 fun y H4 => ∃ acc, H4 D = some (.lst acc) ∧ acc.length < sizeLine ∧ Nx (upd H4 D (.lst (acc ++ [y]))) else Nx H3) : LcTurn g tt te vs σ D Nx x H := h
end
/-! ### o[a:c] = ys, both lists tracked -/
def SlSet (o x y v : V) (H : Hp) (R : Hp → Prop) : Prop := ∃ (l b : Addr) (xs ys : List V) (i j : Int), o = .ref l ∧ v = .ref b ∧ x = .int i ∧ y = .int j ∧ H l = some (.lst xs) ∧ H b = some (.lst ys) ∧ l ≠ b ∧ 0 ≤ i ∧ i ≤ j ∧ j ≤ xs.length ∧ xs.length + ys.length ≤ sizeLine ∧ R (upd H l (.lst (xs.take i.toNat ++ ys ++ xs.drop j.toNat)))
def gSliceSet (to tl th : TE) : TG := fun v σ H Q => to σ H fun o H1 => tl σ H1 fun x H2 => th σ H2 fun y H3 => SlSet o x y v H3 fun H4 => Q σ H4
theorem pg_slice {X : Cx} {o lo hi : Expr} {to tl th : TE} {p2 pos : Pos} (ho : PE X o to) (hl : PE X lo tl) (hu : PE X hi th) : PG X (.Subscript o (.Slice (some lo) (some hi) none p2) pos) (gSliceSet to tl th) := by
  refine ⟨fun pins s σ H v u Q I r h => ?_⟩
  rw [arm_assign_Subscript]
  refine wpAny_bind (wpAny_holding (thn (ho.run pins s σ H _ I h) ?_))
  rintro ov s1 ⟨x, H1, I1, r1, q1⟩
  refine wpAny_bind (wpAny_holding (wpAny_Slice (thn (hl.run pins s1 σ H1 _ I1 q1) ?_)))
  rintro vl s2 ⟨y, H2, I2, r2, q2⟩
  refine thn (hu.run pins s2 σ H2 _ I2 q2) ?_
  rintro vu s3 ⟨z, H3, I3, r3, l, b, xs, ys, i, j, rfl, rfl, rfl, rfl, e1, e2, hne, i0, ij, jx, hz, q⟩
  rw [evalPart_none]
  refine wpAny_pure (wpAny_bind (wpAny_standAt (wpAny_bind (wpAny_holding ?_))))
  cases r1
  cases r
  have I4 := I3.kept (h' := s3.heap.push { cls := .type "slice", data := .fields #[vl, vu, .none] }) (t' := s3.toks) fun b ob q => Heap.get?_push_of_some _ q
  exact set_slice I4 e1 e2 hne (Heap.IsSliceOf.new ..) r2 r3 i0 ij jx hz fun s' J => wpAny_release ⟨σ, _, J, q⟩
theorem w_gsl {σ : St} {H : Hp} {to tl th : TE} {v : V} {R : St → Hp → Prop} (h : to σ H fun o H1 => tl σ H1 fun x H2 => th σ H2 fun y H3 => SlSet o x y v H3 fun H4 => R σ H4) : gSliceSet to tl th v σ H R := h

local macro_rules | `(tactic| left) => `(tactic| (repeat (first | with_reducible refine w_seq ?_ | with_reducible refine w_next ?_ | with_reducible refine w_asg ?_ | with_reducible refine w_drop ?_ | with_reducible refine w_ret ?_ | with_reducible refine w_if ?_ | with_reducible refine w_name ?_ | with_reducible refine w_sub ?_ | with_reducible refine w_c ?_ | with_reducible refine w_op ?_ | with_reducible refine w_un ?_ | with_reducible refine w_U ?_ | with_reducible refine w_I0 ?_ | with_reducible refine w_test ?_ | with_reducible refine w_B ?_ | with_reducible refine w_bl ?_ | with_reducible refine w_not ?_ | with_reducible refine w_and ?_ | with_reducible refine w_or ?_ | with_reducible refine w_ifE ?_ | with_reducible refine w_andV ?_ | with_reducible refine w_orV ?_ | with_reducible refine w_notV ?_ | with_reducible refine w_chain ?_ | with_reducible refine w_nil ?_ | with_reducible refine w_cons ?_ | with_reducible refine w_lst ?_ | with_reducible refine w_tup ?_ | with_reducible refine w_cb ?_ | with_reducible refine w_bm ?_ | with_reducible refine w_call ?_ | with_reducible refine w_int1 ?_ | with_reducible refine w_max ?_ | with_reducible refine w_min ?_ | with_reducible refine w_lc ?_ | with_reducible refine w_for ?_ | with_reducible refine w_rng1 ?_ | with_reducible refine w_listI ?_ | with_reducible refine w_tupI ?_ | with_reducible refine w_zipI ?_ | with_reducible refine w_yes ?_ | with_reducible refine w_turn ?_ | with_reducible refine iteT ?_ | with_reducible refine iteF ?_ | with_reducible refine w_gcons ?_ | with_reducible refine w_gnil ?_ | with_reducible refine w_fld ?_ | with_reducible refine w_sfld ?_ | with_reducible refine w_make ?_ | with_reducible refine w_meth ?_ | with_reducible refine w_gsl ?_ | with_reducible refine w_err ?_ | with_reducible refine w_sl ?_ | with_reducible refine w_part ?_ | with_reducible refine w_nopart ?_ | with_reducible refine w_partGo ?_ | with_reducible refine w_methW ?_ | with_reducible refine w_xf ?_ | with_reducible refine w_isB ?_ | with_reducible refine w_iteSame ?_ | with_reducible refine w_iteNSame ?_ | with_reducible refine w_iteNT ?_ | with_reducible refine w_iteNF ?_ | with_reducible refine w_ipI ?_ | with_reducible refine w_isN ?_ | with_reducible refine w_notN ?_ | with_reducible refine w_iteIntNon ?_ | with_reducible refine w_iteNIntNon ?_ | with_reducible refine w_iteNonInt ?_ | with_reducible refine w_par ?_ | with_reducible refine w_par3 ?_ | with_reducible refine w_parGo ?_ | with_reducible refine w_parGo3 ?_ | with_reducible refine w_makeW ?_ | with_reducible refine w_callS ?_ | with_reducible refine w_prop ?_ | with_reducible refine w_item ?_ | with_reducible refine w_gitem ?_ | ((with_reducible apply w_var); (focus rfl)) | ((with_reducible apply w_aug); (focus rfl)) | ((with_reducible refine w_iteStrNe ?_ ?_); (focus decide +kernel)) | ((with_reducible refine w_iteNStrNe ?_ ?_); (focus decide +kernel)) | ((with_reducible refine w_eq ?_ ?_); (focus rfl)) | ((with_reducible refine w_ne ?_ ?_); (focus rfl)) | ((with_reducible apply w_ixL); (focus ((repeat (first | with_reducible exact upd_same | (with_reducible refine hg_new (by assumption) ?_) | (with_reducible refine hg_ne (by first | assumption | exact Ne.symm (by assumption) | exact ne_of_none (by assumption) (by assumption) | exact Ne.symm (ne_of_none (by assumption) (by assumption))) ?_))); first | done | assumption | exact upd_same)); (focus rfl)) | ((with_reducible apply w_ixT); (focus ((repeat (first | with_reducible exact upd_same | (with_reducible refine hg_new (by assumption) ?_) | (with_reducible refine hg_ne (by first | assumption | exact Ne.symm (by assumption) | exact ne_of_none (by assumption) (by assumption) | exact Ne.symm (ne_of_none (by assumption) (by assumption))) ?_))); first | done | assumption | exact upd_same)); (focus rfl)) | ((with_reducible apply w_setL); (focus ((repeat (first | with_reducible exact upd_same | (with_reducible refine hg_new (by assumption) ?_) | (with_reducible refine hg_ne (by first | assumption | exact Ne.symm (by assumption) | exact ne_of_none (by assumption) (by assumption) | exact Ne.symm (ne_of_none (by assumption) (by assumption))) ?_))); first | done | assumption | exact upd_same)); (focus rfl)) | ((with_reducible apply w_len); (focus ((repeat (first | with_reducible exact upd_same | (with_reducible refine hg_new (by assumption) ?_) | (with_reducible refine hg_ne (by first | assumption | exact Ne.symm (by assumption) | exact ne_of_none (by assumption) (by assumption) | exact Ne.symm (ne_of_none (by assumption) (by assumption))) ?_))); first | done | assumption | exact upd_same))) | ((with_reducible apply w_lenT); (focus ((repeat (first | with_reducible exact upd_same | (with_reducible refine hg_new (by assumption) ?_) | (with_reducible refine hg_ne (by first | assumption | exact Ne.symm (by assumption) | exact ne_of_none (by assumption) (by assumption) | exact Ne.symm (ne_of_none (by assumption) (by assumption))) ?_))); first | done | assumption | exact upd_same))) | ((with_reducible apply w_list); (focus ((repeat (first | with_reducible exact upd_same | (with_reducible refine hg_new (by assumption) ?_) | (with_reducible refine hg_ne (by first | assumption | exact Ne.symm (by assumption) | exact ne_of_none (by assumption) (by assumption) | exact Ne.symm (ne_of_none (by assumption) (by assumption))) ?_))); first | done | assumption | exact upd_same))) | ((with_reducible apply w_fldGo); (focus ((repeat (first | with_reducible exact upd_same | (with_reducible refine hg_new (by assumption) ?_) | (with_reducible refine hg_ne (by first | assumption | exact Ne.symm (by assumption) | exact ne_of_none (by assumption) (by assumption) | exact Ne.symm (ne_of_none (by assumption) (by assumption))) ?_))); first | done | assumption | exact upd_same)); (focus assumption); (focus assumption); (focus (first | exact lk_one | (focus (simp [List.lookup]; done)) | rfl))) | ((with_reducible apply w_sfldGo); (focus ((repeat (first | with_reducible exact upd_same | (with_reducible refine hg_new (by assumption) ?_) | (with_reducible refine hg_ne (by first | assumption | exact Ne.symm (by assumption) | exact ne_of_none (by assumption) (by assumption) | exact Ne.symm (ne_of_none (by assumption) (by assumption))) ?_))); first | done | assumption | exact upd_same)); (focus assumption); (focus assumption); (focus decide)) | ((with_reducible apply w_methGo); (focus ((repeat (first | with_reducible exact upd_same | (with_reducible refine hg_new (by assumption) ?_) | (with_reducible refine hg_ne (by first | assumption | exact Ne.symm (by assumption) | exact ne_of_none (by assumption) (by assumption) | exact Ne.symm (ne_of_none (by assumption) (by assumption))) ?_))); first | done | assumption | exact upd_same)); (focus first | exact lk_no (by decide +kernel) | rfl | (simp [List.lookup]; done))) | ((with_reducible apply w_xfGo); (focus ((repeat (first | with_reducible exact upd_same | (with_reducible refine hg_new (by assumption) ?_) | (with_reducible refine hg_ne (by first | assumption | exact Ne.symm (by assumption) | exact ne_of_none (by assumption) (by assumption) | exact Ne.symm (ne_of_none (by assumption) (by assumption))) ?_))); first | done | assumption | exact upd_same)); (focus (first | exact lk_one | (focus (simp [List.lookup]; done)) | rfl))) | ((with_reducible apply w_isi (r := true)); (focus (first | exact .base (.int _) | exact .base .non | exact .base (.bl _) | exact .base (.str _) | exact .base (.lst (by ((repeat (first | with_reducible exact upd_same | (with_reducible refine hg_new (by assumption) ?_) | (with_reducible refine hg_ne (by first | assumption | exact Ne.symm (by assumption) | exact ne_of_none (by assumption) (by assumption) | exact Ne.symm (ne_of_none (by assumption) (by assumption))) ?_))); first | done | assumption | exact upd_same))) | exact .base (.tup (by ((repeat (first | with_reducible exact upd_same | (with_reducible refine hg_new (by assumption) ?_) | (with_reducible refine hg_ne (by first | assumption | exact Ne.symm (by assumption) | exact ne_of_none (by assumption) (by assumption) | exact Ne.symm (ne_of_none (by assumption) (by assumption))) ?_))); first | done | assumption | exact upd_same))) | exact .base (.dK (by ((repeat (first | with_reducible exact upd_same | (with_reducible refine hg_new (by assumption) ?_) | (with_reducible refine hg_ne (by first | assumption | exact Ne.symm (by assumption) | exact ne_of_none (by assumption) (by assumption) | exact Ne.symm (ne_of_none (by assumption) (by assumption))) ?_))); first | done | assumption | exact upd_same))))); (focus decide +kernel)) | ((with_reducible apply w_isi (r := false)); (focus (first | exact .base (.int _) | exact .base .non | exact .base (.bl _) | exact .base (.str _) | exact .base (.lst (by ((repeat (first | with_reducible exact upd_same | (with_reducible refine hg_new (by assumption) ?_) | (with_reducible refine hg_ne (by first | assumption | exact Ne.symm (by assumption) | exact ne_of_none (by assumption) (by assumption) | exact Ne.symm (ne_of_none (by assumption) (by assumption))) ?_))); first | done | assumption | exact upd_same))) | exact .base (.tup (by ((repeat (first | with_reducible exact upd_same | (with_reducible refine hg_new (by assumption) ?_) | (with_reducible refine hg_ne (by first | assumption | exact Ne.symm (by assumption) | exact ne_of_none (by assumption) (by assumption) | exact Ne.symm (ne_of_none (by assumption) (by assumption))) ?_))); first | done | assumption | exact upd_same))) | exact .base (.dK (by ((repeat (first | with_reducible exact upd_same | (with_reducible refine hg_new (by assumption) ?_) | (with_reducible refine hg_ne (by first | assumption | exact Ne.symm (by assumption) | exact ne_of_none (by assumption) (by assumption) | exact Ne.symm (ne_of_none (by assumption) (by assumption))) ?_))); first | done | assumption | exact upd_same))))); (focus decide +kernel)) | ((with_reducible apply w_slL); (focus ((repeat (first | with_reducible exact upd_same | (with_reducible refine hg_new (by assumption) ?_) | (with_reducible refine hg_ne (by first | assumption | exact Ne.symm (by assumption) | exact ne_of_none (by assumption) (by assumption) | exact Ne.symm (ne_of_none (by assumption) (by assumption))) ?_))); first | done | assumption | exact upd_same))) | ((with_reducible apply w_itemGo); (focus ((repeat (first | with_reducible exact upd_same | (with_reducible refine hg_new (by assumption) ?_) | (with_reducible refine hg_ne (by first | assumption | exact Ne.symm (by assumption) | exact ne_of_none (by assumption) (by assumption) | exact Ne.symm (ne_of_none (by assumption) (by assumption))) ?_))); first | done | assumption | exact upd_same))) | ((with_reducible apply w_lenO); (focus ((repeat (first | with_reducible exact upd_same | (with_reducible refine hg_new (by assumption) ?_) | (with_reducible refine hg_ne (by first | assumption | exact Ne.symm (by assumption) | exact ne_of_none (by assumption) (by assumption) | exact Ne.symm (ne_of_none (by assumption) (by assumption))) ?_))); first | done | assumption | exact upd_same))) | ((with_reducible apply w_gtup); (focus ((repeat (first | with_reducible exact upd_same | (with_reducible refine hg_new (by assumption) ?_) | (with_reducible refine hg_ne (by first | assumption | exact Ne.symm (by assumption) | exact ne_of_none (by assumption) (by assumption) | exact Ne.symm (ne_of_none (by assumption) (by assumption))) ?_))); first | done | assumption | exact upd_same)); (focus rfl)) | ((with_reducible apply w_tyL); (focus ((repeat (first | with_reducible exact upd_same | (with_reducible refine hg_new (by assumption) ?_) | (with_reducible refine hg_ne (by first | assumption | exact Ne.symm (by assumption) | exact ne_of_none (by assumption) (by assumption) | exact Ne.symm (ne_of_none (by assumption) (by assumption))) ?_))); first | done | assumption | exact upd_same))) | ((with_reducible apply w_pop0); (focus ((repeat (first | with_reducible exact upd_same | (with_reducible refine hg_new (by assumption) ?_) | (with_reducible refine hg_ne (by first | assumption | exact Ne.symm (by assumption) | exact ne_of_none (by assumption) (by assumption) | exact Ne.symm (ne_of_none (by assumption) (by assumption))) ?_))); first | done | assumption | exact upd_same))) | ((with_reducible apply w_I); (focus first | (show CMul _ _; first | exact .inl ⟨by omega, by omega⟩ | exact .inr ⟨by omega, by omega⟩) | (show CPow _ _; exact ⟨by omega, by omega, by omega⟩) | (show CDivN _ _; exact ⟨by omega, by omega⟩) | omega)))))
local macro_rules | `(tactic| right) => `(tactic| (repeat (first | with_reducible refine w_seq ?_ | with_reducible refine w_next ?_ | with_reducible refine w_asg ?_ | with_reducible refine w_drop ?_ | with_reducible refine w_ret ?_ | with_reducible refine w_if ?_ | with_reducible refine w_name ?_ | with_reducible refine w_sub ?_ | with_reducible refine w_c ?_ | with_reducible refine w_op ?_ | with_reducible refine w_un ?_ | with_reducible refine w_U ?_ | with_reducible refine w_I0 ?_ | with_reducible refine w_test ?_ | with_reducible refine w_B ?_ | with_reducible refine w_bl ?_ | with_reducible refine w_not ?_ | with_reducible refine w_and ?_ | with_reducible refine w_or ?_ | with_reducible refine w_ifE ?_ | with_reducible refine w_andV ?_ | with_reducible refine w_orV ?_ | with_reducible refine w_notV ?_ | with_reducible refine w_chain ?_ | with_reducible refine w_nil ?_ | with_reducible refine w_cons ?_ | with_reducible refine w_lst ?_ | with_reducible refine w_tup ?_ | with_reducible refine w_cb ?_ | with_reducible refine w_bm ?_ | with_reducible refine w_call ?_ | with_reducible refine w_int1 ?_ | with_reducible refine w_max ?_ | with_reducible refine w_min ?_ | with_reducible refine w_lc ?_ | with_reducible refine w_for ?_ | with_reducible refine w_rng1 ?_ | with_reducible refine w_listI ?_ | with_reducible refine w_tupI ?_ | with_reducible refine w_zipI ?_ | with_reducible refine w_yes ?_ | with_reducible refine w_turn ?_ | with_reducible refine iteT ?_ | with_reducible refine iteF ?_ | with_reducible refine w_gcons ?_ | with_reducible refine w_gnil ?_ | with_reducible refine w_fld ?_ | with_reducible refine w_sfld ?_ | with_reducible refine w_make ?_ | with_reducible refine w_meth ?_ | with_reducible refine w_gsl ?_ | with_reducible refine w_err ?_ | with_reducible refine w_sl ?_ | with_reducible refine w_part ?_ | with_reducible refine w_nopart ?_ | with_reducible refine w_partGo ?_ | with_reducible refine w_methW ?_ | with_reducible refine w_xf ?_ | with_reducible refine w_isB ?_ | with_reducible refine w_iteSame ?_ | with_reducible refine w_iteNSame ?_ | with_reducible refine w_iteNT ?_ | with_reducible refine w_iteNF ?_ | with_reducible refine w_ipI ?_ | with_reducible refine w_isN ?_ | with_reducible refine w_notN ?_ | with_reducible refine w_iteIntNon ?_ | with_reducible refine w_iteNIntNon ?_ | with_reducible refine w_iteNonInt ?_ | with_reducible refine w_par ?_ | with_reducible refine w_par3 ?_ | with_reducible refine w_parGo ?_ | with_reducible refine w_parGo3 ?_ | with_reducible refine w_makeW ?_ | with_reducible refine w_callS ?_ | with_reducible refine w_prop ?_ | with_reducible refine w_item ?_ | with_reducible refine w_gitem ?_ | ((with_reducible apply w_var); (focus rfl)) | ((with_reducible apply w_aug); (focus rfl)) | ((with_reducible refine w_iteStrNe ?_ ?_); (focus decide +kernel)) | ((with_reducible refine w_iteNStrNe ?_ ?_); (focus decide +kernel)) | ((with_reducible refine w_eq ?_ ?_); (focus rfl)) | ((with_reducible refine w_ne ?_ ?_); (focus rfl)) | ((with_reducible apply w_ixL); (focus ((repeat (first | with_reducible exact upd_same | (with_reducible refine hg_new (by assumption) ?_) | (with_reducible refine hg_ne (by first | assumption | exact Ne.symm (by assumption) | exact ne_of_none (by assumption) (by assumption) | exact Ne.symm (ne_of_none (by assumption) (by assumption))) ?_))); first | done | assumption | exact upd_same)); (focus rfl)) | ((with_reducible apply w_ixT); (focus ((repeat (first | with_reducible exact upd_same | (with_reducible refine hg_new (by assumption) ?_) | (with_reducible refine hg_ne (by first | assumption | exact Ne.symm (by assumption) | exact ne_of_none (by assumption) (by assumption) | exact Ne.symm (ne_of_none (by assumption) (by assumption))) ?_))); first | done | assumption | exact upd_same)); (focus rfl)) | ((with_reducible apply w_setL); (focus ((repeat (first | with_reducible exact upd_same | (with_reducible refine hg_new (by assumption) ?_) | (with_reducible refine hg_ne (by first | assumption | exact Ne.symm (by assumption) | exact ne_of_none (by assumption) (by assumption) | exact Ne.symm (ne_of_none (by assumption) (by assumption))) ?_))); first | done | assumption | exact upd_same)); (focus rfl)) | ((with_reducible apply w_len); (focus ((repeat (first | with_reducible exact upd_same | (with_reducible refine hg_new (by assumption) ?_) | (with_reducible refine hg_ne (by first | assumption | exact Ne.symm (by assumption) | exact ne_of_none (by assumption) (by assumption) | exact Ne.symm (ne_of_none (by assumption) (by assumption))) ?_))); first | done | assumption | exact upd_same))) | ((with_reducible apply w_lenT); (focus ((repeat (first | with_reducible exact upd_same | (with_reducible refine hg_new (by assumption) ?_) | (with_reducible refine hg_ne (by first | assumption | exact Ne.symm (by assumption) | exact ne_of_none (by assumption) (by assumption) | exact Ne.symm (ne_of_none (by assumption) (by assumption))) ?_))); first | done | assumption | exact upd_same))) | ((with_reducible apply w_list); (focus ((repeat (first | with_reducible exact upd_same | (with_reducible refine hg_new (by assumption) ?_) | (with_reducible refine hg_ne (by first | assumption | exact Ne.symm (by assumption) | exact ne_of_none (by assumption) (by assumption) | exact Ne.symm (ne_of_none (by assumption) (by assumption))) ?_))); first | done | assumption | exact upd_same))) | ((with_reducible apply w_fldGo); (focus ((repeat (first | with_reducible exact upd_same | (with_reducible refine hg_new (by assumption) ?_) | (with_reducible refine hg_ne (by first | assumption | exact Ne.symm (by assumption) | exact ne_of_none (by assumption) (by assumption) | exact Ne.symm (ne_of_none (by assumption) (by assumption))) ?_))); first | done | assumption | exact upd_same)); (focus assumption); (focus assumption); (focus (first | exact lk_one | (focus (simp [List.lookup]; done)) | rfl))) | ((with_reducible apply w_sfldGo); (focus ((repeat (first | with_reducible exact upd_same | (with_reducible refine hg_new (by assumption) ?_) | (with_reducible refine hg_ne (by first | assumption | exact Ne.symm (by assumption) | exact ne_of_none (by assumption) (by assumption) | exact Ne.symm (ne_of_none (by assumption) (by assumption))) ?_))); first | done | assumption | exact upd_same)); (focus assumption); (focus assumption); (focus decide)) | ((with_reducible apply w_methGo); (focus ((repeat (first | with_reducible exact upd_same | (with_reducible refine hg_new (by assumption) ?_) | (with_reducible refine hg_ne (by first | assumption | exact Ne.symm (by assumption) | exact ne_of_none (by assumption) (by assumption) | exact Ne.symm (ne_of_none (by assumption) (by assumption))) ?_))); first | done | assumption | exact upd_same)); (focus first | exact lk_no (by decide +kernel) | rfl | (simp [List.lookup]; done))) | ((with_reducible apply w_xfGo); (focus ((repeat (first | with_reducible exact upd_same | (with_reducible refine hg_new (by assumption) ?_) | (with_reducible refine hg_ne (by first | assumption | exact Ne.symm (by assumption) | exact ne_of_none (by assumption) (by assumption) | exact Ne.symm (ne_of_none (by assumption) (by assumption))) ?_))); first | done | assumption | exact upd_same)); (focus (first | exact lk_one | (focus (simp [List.lookup]; done)) | rfl))) | ((with_reducible apply w_isi (r := true)); (focus (first | exact .base (.int _) | exact .base .non | exact .base (.bl _) | exact .base (.str _) | exact .base (.lst (by ((repeat (first | with_reducible exact upd_same | (with_reducible refine hg_new (by assumption) ?_) | (with_reducible refine hg_ne (by first | assumption | exact Ne.symm (by assumption) | exact ne_of_none (by assumption) (by assumption) | exact Ne.symm (ne_of_none (by assumption) (by assumption))) ?_))); first | done | assumption | exact upd_same))) | exact .base (.tup (by ((repeat (first | with_reducible exact upd_same | (with_reducible refine hg_new (by assumption) ?_) | (with_reducible refine hg_ne (by first | assumption | exact Ne.symm (by assumption) | exact ne_of_none (by assumption) (by assumption) | exact Ne.symm (ne_of_none (by assumption) (by assumption))) ?_))); first | done | assumption | exact upd_same))) | exact .base (.dK (by ((repeat (first | with_reducible exact upd_same | (with_reducible refine hg_new (by assumption) ?_) | (with_reducible refine hg_ne (by first | assumption | exact Ne.symm (by assumption) | exact ne_of_none (by assumption) (by assumption) | exact Ne.symm (ne_of_none (by assumption) (by assumption))) ?_))); first | done | assumption | exact upd_same))))); (focus decide +kernel)) | ((with_reducible apply w_isi (r := false)); (focus (first | exact .base (.int _) | exact .base .non | exact .base (.bl _) | exact .base (.str _) | exact .base (.lst (by ((repeat (first | with_reducible exact upd_same | (with_reducible refine hg_new (by assumption) ?_) | (with_reducible refine hg_ne (by first | assumption | exact Ne.symm (by assumption) | exact ne_of_none (by assumption) (by assumption) | exact Ne.symm (ne_of_none (by assumption) (by assumption))) ?_))); first | done | assumption | exact upd_same))) | exact .base (.tup (by ((repeat (first | with_reducible exact upd_same | (with_reducible refine hg_new (by assumption) ?_) | (with_reducible refine hg_ne (by first | assumption | exact Ne.symm (by assumption) | exact ne_of_none (by assumption) (by assumption) | exact Ne.symm (ne_of_none (by assumption) (by assumption))) ?_))); first | done | assumption | exact upd_same))) | exact .base (.dK (by ((repeat (first | with_reducible exact upd_same | (with_reducible refine hg_new (by assumption) ?_) | (with_reducible refine hg_ne (by first | assumption | exact Ne.symm (by assumption) | exact ne_of_none (by assumption) (by assumption) | exact Ne.symm (ne_of_none (by assumption) (by assumption))) ?_))); first | done | assumption | exact upd_same))))); (focus decide +kernel)) | ((with_reducible apply w_slL); (focus ((repeat (first | with_reducible exact upd_same | (with_reducible refine hg_new (by assumption) ?_) | (with_reducible refine hg_ne (by first | assumption | exact Ne.symm (by assumption) | exact ne_of_none (by assumption) (by assumption) | exact Ne.symm (ne_of_none (by assumption) (by assumption))) ?_))); first | done | assumption | exact upd_same))) | ((with_reducible apply w_itemGo); (focus ((repeat (first | with_reducible exact upd_same | (with_reducible refine hg_new (by assumption) ?_) | (with_reducible refine hg_ne (by first | assumption | exact Ne.symm (by assumption) | exact ne_of_none (by assumption) (by assumption) | exact Ne.symm (ne_of_none (by assumption) (by assumption))) ?_))); first | done | assumption | exact upd_same))) | ((with_reducible apply w_lenO); (focus ((repeat (first | with_reducible exact upd_same | (with_reducible refine hg_new (by assumption) ?_) | (with_reducible refine hg_ne (by first | assumption | exact Ne.symm (by assumption) | exact ne_of_none (by assumption) (by assumption) | exact Ne.symm (ne_of_none (by assumption) (by assumption))) ?_))); first | done | assumption | exact upd_same))) | ((with_reducible apply w_gtup); (focus ((repeat (first | with_reducible exact upd_same | (with_reducible refine hg_new (by assumption) ?_) | (with_reducible refine hg_ne (by first | assumption | exact Ne.symm (by assumption) | exact ne_of_none (by assumption) (by assumption) | exact Ne.symm (ne_of_none (by assumption) (by assumption))) ?_))); first | done | assumption | exact upd_same)); (focus rfl)) | ((with_reducible apply w_tyL); (focus ((repeat (first | with_reducible exact upd_same | (with_reducible refine hg_new (by assumption) ?_) | (with_reducible refine hg_ne (by first | assumption | exact Ne.symm (by assumption) | exact ne_of_none (by assumption) (by assumption) | exact Ne.symm (ne_of_none (by assumption) (by assumption))) ?_))); first | done | assumption | exact upd_same))) | ((with_reducible apply w_pop0); (focus ((repeat (first | with_reducible exact upd_same | (with_reducible refine hg_new (by assumption) ?_) | (with_reducible refine hg_ne (by first | assumption | exact Ne.symm (by assumption) | exact ne_of_none (by assumption) (by assumption) | exact Ne.symm (ne_of_none (by assumption) (by assumption))) ?_))); first | done | assumption | exact upd_same))) | ((with_reducible apply w_I); (focus first | (show CMul _ _; first | exact .inl ⟨by omega, by omega⟩ | exact .inr ⟨by omega, by omega⟩) | (show CPow _ _; exact ⟨by omega, by omega, by omega⟩) | (show CDivN _ _; exact ⟨by omega, by omega⟩) | omega)) | ((with_reducible refine w_lstGo ?_ ?_); (focus (show _ ≤ sizeLine; decide)); (intro _ _)) | ((with_reducible refine w_tupGo' ?_ ?_); (focus (show _ ≤ sizeLine; decide)); (intro _ _)) | ((with_reducible apply w_isiT ["list", "tuple"] (r := true)); (focus ((repeat (first | with_reducible exact upd_same | (with_reducible refine hg_new (by assumption) ?_) | (with_reducible refine hg_ne (by first | assumption | exact Ne.symm (by assumption) | exact ne_of_none (by assumption) (by assumption) | exact Ne.symm (ne_of_none (by assumption) (by assumption))) ?_))); first | done | assumption | exact upd_same)); (focus rfl); (focus (first | exact .base (.int _) | exact .base .non | exact .base (.bl _) | exact .base (.str _) | exact .base (.lst (by ((repeat (first | with_reducible exact upd_same | (with_reducible refine hg_new (by assumption) ?_) | (with_reducible refine hg_ne (by first | assumption | exact Ne.symm (by assumption) | exact ne_of_none (by assumption) (by assumption) | exact Ne.symm (ne_of_none (by assumption) (by assumption))) ?_))); first | done | assumption | exact upd_same))) | exact .base (.tup (by ((repeat (first | with_reducible exact upd_same | (with_reducible refine hg_new (by assumption) ?_) | (with_reducible refine hg_ne (by first | assumption | exact Ne.symm (by assumption) | exact ne_of_none (by assumption) (by assumption) | exact Ne.symm (ne_of_none (by assumption) (by assumption))) ?_))); first | done | assumption | exact upd_same))) | exact .base (.dK (by ((repeat (first | with_reducible exact upd_same | (with_reducible refine hg_new (by assumption) ?_) | (with_reducible refine hg_ne (by first | assumption | exact Ne.symm (by assumption) | exact ne_of_none (by assumption) (by assumption) | exact Ne.symm (ne_of_none (by assumption) (by assumption))) ?_))); first | done | assumption | exact upd_same))))); (focus decide +kernel)) | ((with_reducible apply w_isiT ["list", "tuple"] (r := false)); (focus ((repeat (first | with_reducible exact upd_same | (with_reducible refine hg_new (by assumption) ?_) | (with_reducible refine hg_ne (by first | assumption | exact Ne.symm (by assumption) | exact ne_of_none (by assumption) (by assumption) | exact Ne.symm (ne_of_none (by assumption) (by assumption))) ?_))); first | done | assumption | exact upd_same)); (focus rfl); (focus (first | exact .base (.int _) | exact .base .non | exact .base (.bl _) | exact .base (.str _) | exact .base (.lst (by ((repeat (first | with_reducible exact upd_same | (with_reducible refine hg_new (by assumption) ?_) | (with_reducible refine hg_ne (by first | assumption | exact Ne.symm (by assumption) | exact ne_of_none (by assumption) (by assumption) | exact Ne.symm (ne_of_none (by assumption) (by assumption))) ?_))); first | done | assumption | exact upd_same))) | exact .base (.tup (by ((repeat (first | with_reducible exact upd_same | (with_reducible refine hg_new (by assumption) ?_) | (with_reducible refine hg_ne (by first | assumption | exact Ne.symm (by assumption) | exact ne_of_none (by assumption) (by assumption) | exact Ne.symm (ne_of_none (by assumption) (by assumption))) ?_))); first | done | assumption | exact upd_same))) | exact .base (.dK (by ((repeat (first | with_reducible exact upd_same | (with_reducible refine hg_new (by assumption) ?_) | (with_reducible refine hg_ne (by first | assumption | exact Ne.symm (by assumption) | exact ne_of_none (by assumption) (by assumption) | exact Ne.symm (ne_of_none (by assumption) (by assumption))) ?_))); first | done | assumption | exact upd_same))))); (focus decide +kernel)) | ((with_reducible apply w_isiT ["bool", "int", "list", "tuple", "dict"] (r := true)); (focus ((repeat (first | with_reducible exact upd_same | (with_reducible refine hg_new (by assumption) ?_) | (with_reducible refine hg_ne (by first | assumption | exact Ne.symm (by assumption) | exact ne_of_none (by assumption) (by assumption) | exact Ne.symm (ne_of_none (by assumption) (by assumption))) ?_))); first | done | assumption | exact upd_same)); (focus rfl); (focus (first | exact .base (.int _) | exact .base .non | exact .base (.bl _) | exact .base (.str _) | exact .base (.lst (by ((repeat (first | with_reducible exact upd_same | (with_reducible refine hg_new (by assumption) ?_) | (with_reducible refine hg_ne (by first | assumption | exact Ne.symm (by assumption) | exact ne_of_none (by assumption) (by assumption) | exact Ne.symm (ne_of_none (by assumption) (by assumption))) ?_))); first | done | assumption | exact upd_same))) | exact .base (.tup (by ((repeat (first | with_reducible exact upd_same | (with_reducible refine hg_new (by assumption) ?_) | (with_reducible refine hg_ne (by first | assumption | exact Ne.symm (by assumption) | exact ne_of_none (by assumption) (by assumption) | exact Ne.symm (ne_of_none (by assumption) (by assumption))) ?_))); first | done | assumption | exact upd_same))) | exact .base (.dK (by ((repeat (first | with_reducible exact upd_same | (with_reducible refine hg_new (by assumption) ?_) | (with_reducible refine hg_ne (by first | assumption | exact Ne.symm (by assumption) | exact ne_of_none (by assumption) (by assumption) | exact Ne.symm (ne_of_none (by assumption) (by assumption))) ?_))); first | done | assumption | exact upd_same))))); (focus decide +kernel)) | ((with_reducible apply w_isiT ["bool", "int", "list", "tuple", "dict"] (r := false)); (focus ((repeat (first | with_reducible exact upd_same | (with_reducible refine hg_new (by assumption) ?_) | (with_reducible refine hg_ne (by first | assumption | exact Ne.symm (by assumption) | exact ne_of_none (by assumption) (by assumption) | exact Ne.symm (ne_of_none (by assumption) (by assumption))) ?_))); first | done | assumption | exact upd_same)); (focus rfl); (focus (first | exact .base (.int _) | exact .base .non | exact .base (.bl _) | exact .base (.str _) | exact .base (.lst (by ((repeat (first | with_reducible exact upd_same | (with_reducible refine hg_new (by assumption) ?_) | (with_reducible refine hg_ne (by first | assumption | exact Ne.symm (by assumption) | exact ne_of_none (by assumption) (by assumption) | exact Ne.symm (ne_of_none (by assumption) (by assumption))) ?_))); first | done | assumption | exact upd_same))) | exact .base (.tup (by ((repeat (first | with_reducible exact upd_same | (with_reducible refine hg_new (by assumption) ?_) | (with_reducible refine hg_ne (by first | assumption | exact Ne.symm (by assumption) | exact ne_of_none (by assumption) (by assumption) | exact Ne.symm (ne_of_none (by assumption) (by assumption))) ?_))); first | done | assumption | exact upd_same))) | exact .base (.dK (by ((repeat (first | with_reducible exact upd_same | (with_reducible refine hg_new (by assumption) ?_) | (with_reducible refine hg_ne (by first | assumption | exact Ne.symm (by assumption) | exact ne_of_none (by assumption) (by assumption) | exact Ne.symm (ne_of_none (by assumption) (by assumption))) ?_))); first | done | assumption | exact upd_same))))); (focus decide +kernel)))))
local macro_rules | `(tactic| and_intros) => `(tactic| ((repeat (first | with_reducible exact upd_same | (with_reducible refine hg_new (by assumption) ?_) | (with_reducible refine hg_ne (by first | assumption | exact Ne.symm (by assumption) | exact ne_of_none (by assumption) (by assumption) | exact Ne.symm (ne_of_none (by assumption) (by assumption))) ?_))); first | done | assumption | exact upd_same))
local macro_rules | `(tactic| ac_rfl) => `(tactic| (repeat (first | with_reducible exact Same.refl _ | (with_reducible refine Same.trans ?_ (Same.new (by assumption))))))

/-! ### the stream of draws -/
/-- at st the stream: a list of what is left, the number in hand, the draws so far, the mix -/
def StrAt (H : Hp) (st ls : Addr) (n : Nat) : Prop := st ≠ ls ∧ ∃ (xs : List Int) (x c m : Int), H st = some (.lst [.ref ls, .int x, .int c, .int m]) ∧ H ls = some (.lst (xs.map V.int)) ∧ 0 ≤ x ∧ 0 ≤ c ∧ c ≤ (n : Int) ∧ 0 ≤ m ∧ m < 2147483647
/-- what is neither at st nor at ls stays -/
def Fr (st ls : Addr) (H H' : Hp) : Prop := ∀ b o, b ≠ st → b ≠ ls → H b = some o → H' b = some o
def spDraw : Sp := fun vs H Q _ => ∃ (st ls : Addr) (n : Nat) (c : Int), vs = [.ref st, .int c] ∧ StrAt H st ls n ∧ n < 1000000 ∧ 0 < c ∧ c < 1073741824 ∧
  ∀ (v : Int) (H' : Hp), 0 ≤ v → v < c → StrAt H' st ls (n + 1) → Fr st ls H H' → Q (.int v) H'
theorem Fr.refl (st ls : Addr) (H : Hp) : Fr st ls H H := fun _ _ _ _ h => h
theorem Fr.trans {st ls : Addr} {H H1 H2 : Hp} (a : Fr st ls H H1) (b : Fr st ls H1 H2) : Fr st ls H H2 := fun c o h1 h2 h => b c o h1 h2 (a c o h1 h2 h)
theorem Fr.st {st ls : Addr} {H : Hp} {o : HO} : Fr st ls H (upd H st o) := fun b u h1 h2 h => by rw [upd_ne h1]; exact h
theorem Fr.ls {st ls : Addr} {H : Hp} {o : HO} : Fr st ls H (upd H ls o) := fun b u h1 h2 h => by rw [upd_ne h2]; exact h
theorem Fr.new {st ls p : Addr} {H : Hp} {o : HO} (h : H p = none) : Fr st ls H (upd H p o) := fun b u h1 h2 hb => by rw [upd_ne (ne_of_none hb h)]; exact hb
theorem StrAt.fr {H H' : Hp} {st ls : Addr} {n : Nat} (h : StrAt H st ls n) (e : ∀ b o, H b = some o → H' b = some o) : StrAt H' st ls n :=
  let ⟨hne, xs, x, c, m, h1, h2, r⟩ := h
  ⟨hne, xs, x, c, m, e _ _ h1, e _ _ h2, r⟩
theorem StrAt.up {H : Hp} {st ls : Addr} {n m : Nat} (h : StrAt H st ls n) (e : n ≤ m) : StrAt H st ls m :=
  let ⟨hne, xs, x, c, k, h1, h2, a, b, d, r⟩ := h
  ⟨hne, xs, x, c, k, h1, h2, a, b, by omega, r⟩
theorem StrAt.nest {H : Hp} {st ls p : Addr} {n : Nat} (h : StrAt H st ls n) (hp : H p = none) : p ≠ st ∧ p ≠ ls :=
  let ⟨_, _, _, _, _, h1, h2, _⟩ := h
  ⟨(ne_of_none h1 hp).symm, (ne_of_none h2 hp).symm⟩
theorem StrAt.new {H : Hp} {st ls p : Addr} {n : Nat} {o : HO} (h : StrAt H st ls n) (hp : H p = none) : StrAt (upd H p o) st ls n :=
  h.fr fun b u e => by rw [upd_ne (ne_of_none e hp)]; exact e
theorem atI_of {xs : List V} {v : Int} (h0 : 0 ≤ v) (h1 : v < xs.length) : ∃ y, atI xs v = some y ∧ y ∈ xs := by
  obtain ⟨j, rfl⟩ := Int.eq_ofNat_of_zero_le h0
  have hj : j < xs.length := by omega
  exact ⟨xs[j], atI_nat (List.getElem?_eq_getElem hj), List.getElem_mem hj⟩
/-- one of a list -/
def spPick : Sp := fun vs H Q _ => ∃ (st ls : Addr) (n : Nat) (l : Addr) (xs : List V), vs = [.ref st, .ref l] ∧ StrAt H st ls n ∧ n < 1000000 ∧ H l = some (.lst xs) ∧ l ≠ st ∧ l ≠ ls ∧ 0 < xs.length ∧ xs.length < 1000000 ∧
  ∀ (v : V) (H' : Hp), v ∈ xs → StrAt H' st ls (n + 1) → Fr st ls H H' → Q v H'
theorem get_map {xs : List Int} {i : Nat} {x : V} (h : (xs.map V.int)[i]? = some x) : ∃ z, x = .int z ∧ z ∈ xs := by
  rw [List.getElem?_map] at h
  cases e : xs[i]? with
  | none => rw [e] at h; cases h
  | some z => rw [e] at h; exact ⟨z, (Option.some.inj h).symm, List.mem_of_getElem? e⟩
/-! ### the same data -/
inductive Rep (H : Hp) : Nat → V → V → Prop
  | non {n : Nat} : Rep H n .non .non
  | int {n : Nat} (i : Int) : Rep H n (.int i) (.int i)
  | bl {n : Nat} (b : Bool) : Rep H n (.bl b) (.bl b)
  | str {n : Nat} (x : Str) : Rep H n (.str x) (.str x)
  | lst {n : Nat} {a b : Addr} {xs ys : List V} : H a = some (.lst xs) → H b = some (.lst ys) → xs.length = ys.length → xs.length ≤ 1000000 → (∀ (i : Nat) x y, xs[i]? = some x → ys[i]? = some y → Rep H n x y) → Rep H (n + 1) (.ref a) (.ref b)
  | tup {n : Nat} {a b : Addr} {xs ys : List V} : H a = some (.tup xs) → H b = some (.tup ys) → xs.length = ys.length → xs.length ≤ 1000000 → (∀ (i : Nat) x y, xs[i]? = some x → ys[i]? = some y → Rep H n x y) → Rep H (n + 1) (.ref a) (.ref b)
theorem Rep.same {H H' : Hp} (e : Same H H') : ∀ {n : Nat} {x y : V}, Rep H n x y → Rep H' n x y
  | _, _, _, .non => .non
  | _, _, _, .int i => .int i
  | _, _, _, .bl b => .bl b
  | _, _, _, .str x => .str x
  | _, _, _, .lst h1 h2 hl hz k => .lst (e _ _ h1) (e _ _ h2) hl hz fun i x y hx hy => Rep.same e (k i x y hx hy)
  | _, _, _, .tup h1 h2 hl hz k => .tup (e _ _ h1) (e _ _ h2) hl hz fun i x y hx hy => Rep.same e (k i x y hx hy)
def spSame : Nat → Sp
  | 0 => fun _ _ _ _ => False
  | n + 1 => fun vs H Q _ => ∃ x y, vs = [x, y] ∧ Rep H n x y ∧ ∀ H', Same H H' → Q (.bl true) H'
theorem StrAt.fr2 {H H' : Hp} {st ls : Addr} {n : Nat} (h : StrAt H st ls n) (e : ∀ b o, b = st ∨ b = ls → H b = some o → H' b = some o) : StrAt H' st ls n :=
  let ⟨hne, xs, x, c, m, h1, h2, r⟩ := h
  ⟨hne, xs, x, c, m, e _ _ (.inl rfl) h1, e _ _ (.inr rfl) h2, r⟩

/-! ### o[i], o[i] = e, len(o) of an own class -/
section
variable {X : Cx} {k : Nat} {C f a : Addr} {m : Str} {sp : Sp} {W : WX} {o i : Expr} {to ti : TE} {pos : Pos}
/-- a special method of the class at C -/
structure SpecOk (P : Program) (w : World) (K : PySem.W.Frag) (mg : Str → Option Value) (base : Heap) (C : Addr) (m : Str) (k : Nat) (sp : Sp) : Prop where
  noq : PySem.W.noSeq K C = true
  ex : ∃ f fd ps, PySem.W.findIn K (.ref C) m = some (some (.ref f)) ∧ PySem.W.fnIn K f = true ∧ PySem.W.isFn K (.ref f) = true ∧ Binds K fd ps [] ∧ FnOk P w K mg base (L2.CX P w) k f fd ps sp
abbrev SOk (X : Cx) := SpecOk X.prog X.w X.K X.mg X.base
theorem run_in1 {pins : List (Addr × Obj)} {σ : St} {H : Hp} {s : Shared} {Q : VK} {E : XK} {fd : FuncData} {ps : List Str} {us : List Value} {vs : List V} (F : FnOk X.prog X.w X.K X.mg X.base (L2.CX X.prog X.w) k f fd ps sp) (hr : Room (k + 1) X.A) (hb : Binds X.K fd ps []) (hx : PassesAt (L2.CX X.prog X.w) X σ E)
    (I : Inv X pins σ H s) (r : Vals vs us) (h : sp vs H Q E) : wpAny (model X.prog X.w) X.A.in1 (call (.ref f) us) (EP X pins σ Q) X.xe s := by
  have hl : us.length = ps.length := by rw [← r.length]; exact F.len _ _ _ _ h
  have hb' := hb s us I.kIn (by rw [List.append_nil]; exact hl)
  rw [List.append_nil] at hb'
  refine wpAny_call (codeAny_mono (F.run X.A.in1 X.stack s H ⟨us, []⟩ us vs Q E hr.in1 I.env0.in1 hb' r h) ?_)
  rintro (er | fl) s' hq
  · exact hx pins H s er s' I hq
  · cases fl <;> first | exact I.after hq | exact False.elim hq
theorem run_at {pins : List (Addr × Obj)} {σ : St} {H : Hp} {s : Shared} {Q : VK} {E : XK} {fd : FuncData} {ps : List Str} {us : List Value} {vs : List V} (F : FnOk X.prog X.w X.K X.mg X.base (L2.CX X.prog X.w) k f fd ps sp) (hr : Room k X.A) (hb : Binds X.K fd ps []) (hx : PassesAt (L2.CX X.prog X.w) X σ E)
    (I : Inv X pins σ H s) (r : Vals vs us) (h : sp vs H Q E) : wpAny (model X.prog X.w) X.A (call (.ref f) us) (EP X pins σ Q) X.xe s := run_fnS (E := fun _ => E) F hr hb hx I r h
theorem passE0 {X : Cx} (σ : St) : PassesAt (L2.CX X.prog X.w) X σ E0 := fun pins H s e s' I h => passL pins σ H s e s' I h
/-- what o[i] asks: an instance of the class, and the method's promise -/
def ItemR (C : Addr) (sp : Sp) (E : XK) (x : V) (rest : List V) (H : Hp) (Q : VK) : Prop := ∃ a dx fs, x = .ref a ∧ H a = some (.ins C dx fs) ∧ sp (.ref a :: rest) H Q E
def tItem (C : Addr) (sp : Sp) (E : St → XK) (to ti : TE) : TE := fun σ H Q => to σ H fun x H1 => ti σ H1 fun y H2 => ItemR C sp (E σ) x [y] H2 Q
theorem pe_itemG {E : St → XK} (hx : ∀ σ, PassesAt (L2.CX X.prog X.w) X σ (E σ)) (D : SOk X C "__getitem__" k sp) (hr : Room (k + 1) X.A) (ho : PE X o to) (hi : PE X i ti)
    (hsl : ∀ (a : Addr) (v : Value), subscripted i true (.ref a) v = runValue (.builtin "lifetime.subscript" ⟨[.ref a, v], []⟩) := by intro _ _; with_unfolding_all rfl) : PE X (.Subscript o i pos) (tItem C sp E to ti) := by
  obtain ⟨f, fd, ps, hf, fn, isf, b, F⟩ := D.ex
  refine ⟨fun pins s σ H Q I h => PyProof.Rows.Subscript_ (thn (ho.run pins s σ H _ I h) ?_)⟩
  rintro u s1 ⟨x, H1, I1, r1, q1⟩
  refine thn (hi.run pins s1 σ H1 _ I1 q1) ?_
  rintro v s2 ⟨y, H2, I2, r2, a, dx, fs, rfl, ea, q2⟩
  cases r1
  obtain ⟨mA, O, _⟩ := ins_get I2.hok ea
  obtain ⟨od, J, _⟩ := O.look
  obtain ⟨m', Fr'⟩ := I2.fr
  exact PySem.W.sub_K Fr' I.ok.mod.kin J hf fn isf (run_in1 F hr b (hx σ) I2 (.cons (show RelV (.ref a) (.ref a) from rfl) (.cons r2 .nil)) q2) (hsl a v)
theorem pe_itemO (D : SOk X C "__getitem__" k sp) (hr : Room (k + 1) X.A) (ho : PE X o to) (hi : PE X i ti)
    (hsl : ∀ (a : Addr) (v : Value), subscripted i true (.ref a) v = runValue (.builtin "lifetime.subscript" ⟨[.ref a, v], []⟩) := by intro _ _; with_unfolding_all rfl) : PE X (.Subscript o i pos) (tItem C sp (fun _ => E0) to ti) := pe_itemG passE0 D hr ho hi hsl
/-- o[i] = v -/
def AsgEq (X : Cx) (o i : Expr) (pos : Pos) : Prop := ∀ v, assign (.Subscript o i pos) X.env v = (do let ov ← holding [v] (eval o X.env); let iv ← holding [v, ov] (eval i X.env); standAt pos; holding [v, ov, iv] (setItem ov iv v); release [v, ov, iv] [])
def gItem (C : Addr) (sp : Sp) (E : St → XK) (to ti : TE) : TG := fun v σ H Q => to σ H fun x H1 => ti σ H1 fun y H2 => ItemR C sp (E σ) x [y, v] H2 fun _ H3 => Q σ H3
theorem pg_itemG {E : St → XK} (hx : ∀ σ, PassesAt (L2.CX X.prog X.w) X σ (E σ)) (D : SOk X C "__setitem__" k sp) (hr : Room k X.A) (ho : PE X o to) (hi : PE X i ti)
    (ha : AsgEq X o i pos := by intro _; rfl) : PG X (.Subscript o i pos) (gItem C sp E to ti) := by
  obtain ⟨f, fd, ps, hf, fn, isf, b, F⟩ := D.ex
  refine ⟨fun pins s σ H v u Q I r h => ?_⟩
  rw [ha]
  refine wpAny_bind (wpAny_holding (thn (ho.run pins s σ H _ I h) ?_))
  rintro ov s1 ⟨x, H1, I1, r1, q1⟩
  refine wpAny_bind (wpAny_holding (thn (hi.run pins s1 σ H1 _ I1 q1) ?_))
  rintro iv s2 ⟨y, H2, I2, r2, a, dx, fs, rfl, ea, q2⟩
  cases r1
  obtain ⟨mA, O, _⟩ := ins_get I2.hok ea
  obtain ⟨od, J, _⟩ := O.look
  obtain ⟨m', Fr'⟩ := I2.fr
  refine wpAny_bind (wpAny_standAt (wpAny_bind (wpAny_holding ?_)))
  refine PySem.W.ksp_setItem Fr' I.ok.mod.kin J D.noq hf isf (thn (run_at F hr b (hx σ) I2 (.cons (show RelV (.ref a) (.ref a) from rfl) (.cons r2 (.cons r .nil))) q2) ?_)
  rintro z s3 ⟨z', H3, I3, _, q3⟩
  exact wpAny_release ⟨σ, H3, I3, q3⟩
/-- len(o) -/
def rLenO (C : Addr) (sp : Sp) : List V → Hp → VK → Prop := fun xs H Q => ∃ x, xs = [x] ∧ ItemR C sp E0 x [] H fun v H' => ∃ n : Nat, v = .int n ∧ n < 9223372036854775808 ∧ Q (.int n) H'
theorem call_lenO (D : SOk X C "__len__" k sp) (hr : Room (k + 1) X.A) : CallR X (.builtin "len") (rLenO C sp) := by
  obtain ⟨f, fd, ps, hf, fn, isf, b, F⟩ := D.ex
  rintro pins s σ H xs us Q I r ⟨x, rfl, a, dx, fs, rfl, ea, q⟩
  obtain ⟨u, rfl, rx⟩ := vals1 r
  cases rx
  obtain ⟨mA, O, _⟩ := ins_get I.hok ea
  obtain ⟨od, J, _⟩ := O.look
  obtain ⟨m', Fr'⟩ := I.fr
  refine PySem.W.len_K Fr' I.ok.mod.kin J hf isf (thn (run_in1 (us := [.ref a]) F hr b (passE0 σ) I (.cons (show RelV (.ref a) (.ref a) from rfl) .nil) q) ?_)
  rintro z s3 ⟨z', H3, I3, rz, n, rfl, hn, q3⟩
  obtain ⟨t, rfl⟩ := rz
  exact ⟨⟨by omega, by omega⟩, .int n, H3, I3.tok _, ⟨_, rfl⟩, q3⟩
/-- a property of an own class -/
structure PropOk (P : Program) (w : World) (K : PySem.W.Frag) (mg : Str → Option Value) (base : Heap) (C : Addr) (m : Str) (k : Nat) (sp : Sp) : Prop where
  ex : ∃ p g fd ps, PropOf K C m p g ∧ Binds K fd ps [] ∧ FnOk P w K mg base (L2.CX P w) k g fd ps sp
abbrev POk (X : Cx) := PropOk X.prog X.w X.K X.mg X.base
theorem pe_propD {e : Expr} {ta : TE} (he : PE X e ta) (c : Cls X.K C) (D : POk X C m k sp) (hr : Room (k + 1) X.A) (hab : attributeBase e m X.env (eval e X.env) = eval e X.env) : PE X (.Attribute e m pos) (tProp C sp [] E0 ta) :=
  let ⟨_, _, _, _, hp, b, F⟩ := D.ex
  pe_prop he c hp F hr b .nil passL hab
theorem w_prop {C : Addr} {sp : Sp} {E : XK} {ta : TE} {σ : St} {H : Hp} {Q : VK} (h : ta σ H fun x H1 => ItemR C sp E x [] H1 Q) : tProp C sp [] E ta σ H Q := h
theorem w_item {C : Addr} {sp : Sp} {E : St → XK} {to ti : TE} {σ : St} {H : Hp} {Q : VK} (h : to σ H fun x H1 => ti σ H1 fun y H2 => ItemR C sp (E σ) x [y] H2 Q) : tItem C sp E to ti σ H Q := h
theorem w_gitem {C : Addr} {sp : Sp} {E : St → XK} {to ti : TE} {v : V} {σ : St} {H : Hp} {R : St → Hp → Prop} (h : to σ H fun x H1 => ti σ H1 fun y H2 => ItemR C sp (E σ) x [y, v] H2 fun _ H3 => R σ H3) : gItem C sp E to ti v σ H R := h
theorem w_itemGo {C a dx : Addr} {fs : List (Str × V)} {sp : Sp} {E : XK} {rest : List V} {H : Hp} {Q : VK} (h : H a = some (.ins C dx fs)) (q : sp (.ref a :: rest) H Q E) : ItemR C sp E (.ref a) rest H Q := ⟨a, dx, fs, rfl, h, q⟩
theorem w_lenO {C a dx : Addr} {fs : List (Str × V)} {sp : Sp} {H : Hp} {Q : VK} (h : H a = some (.ins C dx fs)) (q : sp [.ref a] H (fun v H' => ∃ n : Nat, v = .int n ∧ n < 9223372036854775808 ∧ Q (.int n) H') E0) : rLenO C sp [.ref a] H Q := ⟨_, rfl, a, dx, fs, rfl, h, q⟩
end

/-! ### repr of a few plain things, whatever is under way -/
section
variable {prog : Program} {w : World} {A : Around} {E : Value → Shared → Prop} {s : Shared} {g : List Code} {a : Addr} {o : Obj}
/-- is a list's text under way -/
def lstGuardF (self : Value) : Code × Pos → Bool := fun x => match x with
  | (.builtin "list.__repr__.loop" ⟨v :: _, _⟩, _) => Builtin.List.listSameRef v self
  | _ => false
theorem lstGuardF_off (self : Value) (c : Code) (p : Pos) (hc : c.isGuard = false) : lstGuardF self (c, p) = false := by
  unfold lstGuardF
  split
  · next v rest kw _ heq => cases heq; simp [Code.isGuard, guardIds] at hc
  · rfl
theorem lstGuardF_pos (self : Value) (c : Code) (p : Pos) : lstGuardF self (c, p) = lstGuardF self (c, default) := by
  unfold lstGuardF
  split
  · next v rest kw _ heq => cases heq; rfl
  · next h =>
    split
    · next v rest kw _ heq => cases heq; exact absurd rfl (h _ _ _ _)
    · rfl
def uwT (g : List Code) (a : Addr) : Bool := g.any fun c => tupGuardF (.ref a) (c, default)
def uwD (g : List Code) (a : Addr) : Bool := g.any fun c => dictGuardF (.ref a) (c, default)
def uwL (g : List Code) (a : Addr) : Bool := g.any fun c => lstGuardF (.ref a) (c, default)
theorem rp_tup {items : Array Value} {n : Nat} {ts : List Str} {Q : Value → Shared → Prop} (hg : A.guards = some g) (ha : s.heap.get? a = some o) (hc : o.cls = .type "tuple") (hd : o.data = .seq items n) (hT : ReprAll prog w items.toList ts) (hsz : (tupleText ts).length ≤ sizeLine)
    (h : ∀ u tk, Q (.str (if uwT g a = true then "(...)" else tupleText ts) u) { s with toks := tk }) : wpAny (model prog w) A (call (.builtin "tuple.__repr__") [.ref a]) Q E s := by
  refine wpAny_call (codeAny_call_builtin_own (Code.quiet_builtin _ (by decide +kernel)) F.entry_tuple_repr (F.slot_tuple_repr.check _ _ _ _ _ _ _ _ ⟨o, ha, hc⟩ (F.args_tuple_repr_1 _) ?_))
  show wpOwn _ _ _ (Builtin.tupleReprAt 0 ⟨[.ref a], []⟩) _ _ s
  rw [tuple_repr_tree, tupleReprUnderWay_eq]
  refine wpOwn_bind (wpOwn_stackTailAny hg (tupGuardF_off _) (tupGuardF_pos _) ?_)
  have e : (g.any fun c => tupGuardF (.ref a) (c, default)) = uwT g a := rfl
  rw [e]
  cases q : uwT g a with
  | true =>
    rw [q] at h
    refine wpOwn_of_wpAny (PySem.W.KFB.if_so rfl (wpAny_bind (wpAny_rule (wpAny_bind (wpAny_mkStr (wpAny_pure ?_) (by decide +kernel))))))
    exact h _ _
  | false =>
    rw [q] at h
    refine wpOwn_of_wpAny (PySem.W.KFB.if_not rfl (wpAny_tupleReprRest ha hd hT (fun u tk => ?_) (by omega)))
    exact h u tk
theorem rp_dct {n : Nat} {Q : Value → Shared → Prop} (hg : A.guards = some g) (ha : s.heap.get? a = some o) (hc : o.cls = .type "dict") (hd : o.data = .dict #[] n) (hsys : (a == sysModules) = false)
    (h : ∀ u tk, Q (.str (if uwD g a = true then "{...}" else "{}") u) { s with toks := tk }) : wpAny (model prog w) A (call (.builtin "dict.__repr__") [.ref a]) Q E s := by
  refine wpAny_call (codeAny_call_builtin_own (Code.quiet_builtin _ (by decide +kernel)) F.entry_dict_repr (F.slot_dict_repr.check _ _ _ _ _ _ _ _ ⟨o, ha, hc⟩ (F.args_dict_repr_1 _) ?_))
  show wpOwn _ _ _ (Builtin.dictReprAt 0 ⟨[.ref a], []⟩) _ _ s
  unfold Builtin.dictReprAt
  refine wpOwn_bind (wpOwn_of_wpAny ?_)
  unfold Builtin.Dict.dictSlotNone
  refine wpAny_bind (wpAny_notOrdered_dict ⟨o, ha, hc⟩ ?_)
  refine wpAny_pure ?_
  rw [dictReprRunning_eq]
  refine wpOwn_bind (wpOwn_stackTailAny hg (dictGuardF_off _) (dictGuardF_pos _) ?_)
  have e : (g.any fun c => dictGuardF (.ref a) (c, default)) = uwD g a := rfl
  rw [e]
  cases q : uwD g a with
  | true =>
    rw [q] at h
    refine wpOwn_of_wpAny (PySem.W.KFB.if_so rfl (wpAny_bind (wpAny_rule (wpAny_bind ?_))))
    refine wpAny_mkStr (wpAny_pure ?_) (by decide +kernel)
    exact h _ _
  | false =>
    rw [q] at h
    refine wpOwn_of_wpAny (PySem.W.KFB.if_not rfl ?_)
    show wpAny _ _ (Builtin.Dict.addrOf (.ref a) >>= _) _ _ s
    refine wpAny_bind (wpAny_pure ?_)
    show wpAny _ _ (Builtin.Dict.showsAll a >>= _) _ _ s
    unfold Builtin.Dict.showsAll
    rw [if_neg (by rw [hsys]; exact Bool.false_ne_true)]
    refine wpAny_bind (wpAny_pure (wpAny_bind (wpAny_dictEpoch ha hd (wpAny_bind (wpAny_dictEntries ha hd (wpAny_bind ?_))))))
    rw [Std.Legacy.Range.forIn_eq_forIn_range']
    refine wpAny_pure ?_
    refine wpAny_bind (wpAny_mkStr (wpAny_pure ?_) (by decide +kernel))
    exact h _ _
theorem rp_lst {x : Value} {l : List Value} {n : Nat} {ts : List Str} {Q : Value → Shared → Prop} (hg : A.guards = some g) (ha : s.heap.get? a = some o) (hc : o.cls = .type "list") (hd : o.data = .seq (x :: l).toArray n) (hlen : ts.length = (x :: l).toArray.size)
    (hT : ∀ (i : Nat) (y : Value), (x :: l).toArray[i]? = some y → ∃ t, ts[i]? = some t ∧ ReprIs prog w y t) (hsz : (listText ts).length ≤ sizeLine)
    (h : ∀ h' u tk, (∀ b o, s.heap.get? b = some o → h'.get? b = some o) → Q (.str (if uwL g a = true then "[...]" else listText ts) u) { s with heap := h', toks := tk }) : wpAny (model prog w) A (call (.builtin "list.__repr__") [.ref a]) Q E s := by
  cases q : uwL g a with
  | false =>
    rw [q] at h
    refine call_list_repr ⟨o, ha, hc⟩ hg (fun v rest kw hm => ?_) ha hd hlen hT h hsz
    have h2 : ∀ c ∈ g, ¬ lstGuardF (.ref a) (c, default) = true := List.any_eq_false.mp q
    have h3 := h2 _ hm
    cases e : Builtin.List.listSameRef v (.ref a) with
    | false => rfl
    | true => exact absurd e h3
  | true =>
    rw [q] at h
    refine wpAny_call (codeAny_call_builtin_own (Code.quiet_builtin _ (by decide +kernel)) F.entry_list_repr (F.slot_list_repr.check _ _ _ _ _ _ _ _ ⟨o, ha, hc⟩ (F.args_list_repr_1 _) ?_))
    show wpOwn _ _ _ (Builtin.listReprAt 0 ⟨[.ref a], []⟩) _ _ s
    intro Γ p hq hΓ
    unfold Builtin.listReprAt
    simp [slotArgs, Builtin.List.listItems, seqItems?, Sem.wp_load_of (h := ha), hd, stack]
    have hr : Γ.below.any (lstGuardF (.ref a)) = true := by
      rw [any_eq_guards (lstGuardF_off _) (lstGuardF_pos _), hΓ.2.2.2.1 g hg]
      exact q
    show Sem.wp _ _ (if Γ.below.any (lstGuardF (.ref a)) = true then _ else _) _ _ _ _
    rw [if_pos hr]
    refine (show wpAny (model prog w) (A.under Γ.code) (do rule "list.__repr__.in-itself"; retStr "[...]") _ _ s from ?_) Γ p hΓ.in
    refine wpAny_bind (wpAny_rule (wpAny_bind (wpAny_mkStr (wpAny_pure ?_) (by decide +kernel))))
    exact h s.heap _ _ fun _ _ e => e
end
/-- a few plain things -/
inductive Odd (H : Hp) : V → Prop
  | int (i : Int) : i.natAbs.log2 < 1920 → Odd H (.int i)
  | bl (b : Bool) : Odd H (.bl b)
  | non : Odd H .non
  | str (x : Str) : (reprText x).length ≤ sizeLine → Odd H (.str x)
  | lst {a : Addr} {i : Int} : H a = some (.lst [.int i]) → i.natAbs.log2 < 1920 → (listText [(toString i : Str)]).length ≤ sizeLine → Odd H (.ref a)
  | tup0 {a : Addr} : H a = some (.tup []) → Odd H (.ref a)
  | tup1 {a : Addr} {i : Int} : H a = some (.tup [.int i]) → i.natAbs.log2 < 1920 → (tupleText [(toString i : Str)]).length ≤ sizeLine → Odd H (.ref a)
  | dct {a : Addr} : H a = some (.dK []) → Odd H (.ref a)
theorem Odd.same {H H' : Hp} {x : V} (e : Same H H') (h : Odd H x) : Odd H' x := by
  cases h with
  | int i h => exact .int i h
  | bl b => exact .bl b
  | non => exact .non
  | str x h => exact .str x h
  | lst h1 h2 h3 => exact .lst (e _ _ h1) h2 h3
  | tup0 h1 => exact .tup0 (e _ _ h1)
  | tup1 h1 h2 h3 => exact .tup1 (e _ _ h1) h2 h3
  | dct h1 => exact .dct (e _ _ h1)
def txI : V → Str
  | .int i => toString i
  | _ => ""
/-- what repr tells of them, g under way -/
def txR (g : List Code) (H : Hp) : V → Str
  | .int i => toString i
  | .bl b => if b then "True" else "False"
  | .non => "None"
  | .str x => reprText x
  | .ref a => match H a with
    | some (.lst xs) => if uwL g a = true then "[...]" else listText (xs.map txI)
    | some (.tup xs) => if uwT g a = true then "(...)" else tupleText (xs.map txI)
    | some (.dK _) => if uwD g a = true then "{...}" else "{}"
    | _ => ""
  | _ => ""
theorem txR_same {g : List Code} {H H' : Hp} {x : V} (e : Same H H') (h : Odd H x) : txR g H' x = txR g H x := by
  cases h with
  | int i h => rfl
  | bl b => rfl
  | non => rfl
  | str x h => rfl
  | lst h1 h2 h3 => unfold txR; simp only [h1, e _ _ h1]
  | tup0 h1 => unfold txR; simp only [h1, e _ _ h1]
  | tup1 h1 h2 h3 => unfold txR; simp only [h1, e _ _ h1]
  | dct h1 => unfold txR; simp only [h1, e _ _ h1]
def rRepr (g : List Code) : List V → Hp → VK → Prop := fun xs H Q => ∃ x, xs = [x] ∧ Odd H x ∧ Q (.str (txR g H x)) H
theorem call_reprG {X : Cx} {g : List Code} (hg : X.A.guards = some g) (hu : X.A.units + 64 < cLine) : CallR X (.builtin "repr") (rRepr g) := by
  rintro pins s σ H xs us Q I r ⟨x, rfl, od, q⟩
  obtain ⟨u, rfl, rx⟩ := vals1 r
  cases od with
  | int i hi =>
    obtain ⟨t, rfl⟩ := rx
    exact PySem.P.repr_of_int hi ⟨.str _, H, I.tok _, ⟨_, rfl⟩, q⟩
  | bl b =>
    cases rx
    refine PySem.P.repr_of_bool ⟨.str _, H, I.tok _, ⟨_, rfl⟩, ?_⟩
    cases b <;> exact q
  | non =>
    cases rx
    exact PySem.P.repr_of_none ⟨.str _, H, I.tok _, ⟨_, rfl⟩, q⟩
  | str x hx =>
    obtain ⟨t, rfl⟩ := rx
    exact PySem.P.repr_of_str ⟨.str _, H, I.tok _, ⟨_, rfl⟩, q⟩ hx
  | @lst a i h1 h2 h3 =>
    cases rx
    obtain ⟨_, its, n, rv, ho⟩ := (show ObjOk X.prog X.w H s.heap a (.lst [.int i]) from I.hok a _ h1)
    obtain ⟨v, rfl, rv1⟩ := vals1 rv
    obtain ⟨t, rfl⟩ := rv1
    have e : txR g H (.ref a) = if uwL g a = true then ("[...]" : Str) else listText [(toString i : Str)] := by
      unfold txR; simp only [h1]; rfl
    refine call_repr_slot (by omega) ⟨_, ho, rfl⟩ F.slot_list_repr.toG (rp_lst (ts := [(toString i : Str)]) hg ho rfl rfl rfl (fun j y hj => ?_) h3 fun h' u tk hk => ⟨_, _, rfl, .str _, H, I.kept (t' := tk) hk, ⟨_, rfl⟩, e ▸ q⟩)
    cases j with
    | zero => cases hj; exact ⟨_, rfl, ReprIs.int t h2⟩
    | succ j => simp at hj
  | @tup0 a h1 =>
    cases rx
    obtain ⟨_, its, rv, o, ho, hc, n, hd⟩ := (show ObjOk X.prog X.w H s.heap a (.tup []) from I.hok a _ h1)
    cases rv
    have e : txR g H (.ref a) = if uwT g a = true then ("(...)" : Str) else tupleText [] := by
      unfold txR; simp only [h1]; rfl
    refine call_repr_slot (by omega) ⟨_, ho, hc⟩ F.slot_tuple_repr (rp_tup (ts := []) hg ho hc hd .nil (by decide +kernel) fun u tk => ⟨_, _, rfl, .str _, H, I.tok tk, ⟨_, rfl⟩, e ▸ q⟩)
  | @tup1 a i h1 h2 h3 =>
    cases rx
    obtain ⟨_, its, rv, o, ho, hc, n, hd⟩ := (show ObjOk X.prog X.w H s.heap a (.tup [.int i]) from I.hok a _ h1)
    obtain ⟨v, rfl, rv1⟩ := vals1 rv
    obtain ⟨t, rfl⟩ := rv1
    have e : txR g H (.ref a) = if uwT g a = true then ("(...)" : Str) else tupleText [(toString i : Str)] := by
      unfold txR; simp only [h1]; rfl
    refine call_repr_slot (by omega) ⟨_, ho, hc⟩ F.slot_tuple_repr (rp_tup (ts := [(toString i : Str)]) hg ho hc hd (.cons (ReprIs.int t h2) .nil) h3 fun u tk => ⟨_, _, rfl, .str _, H, I.tok tk, ⟨_, rfl⟩, e ▸ q⟩)
  | @dct a h1 =>
    cases rx
    obtain ⟨_, hsm, vs, kv, o, es, ep, h4⟩ := dk_of I.hok h1
    have e : txR g H (.ref a) = if uwD g a = true then ("{...}" : Str) else "{}" := by
      unfold txR; simp only [h1]
    obtain ⟨h5, h6, h7, _, h8, _⟩ := h4
    cases kv
    have h9 : es = #[] := by
      cases es with
      | mk l => cases h8; rfl
    subst h9
    exact call_repr_slot (by omega) ⟨_, h5, h6.1⟩ F.slot_dict_repr (rp_dct hg h5 h6.1 h7 hsm fun u tk => ⟨_, _, rfl, .str _, H, I.tok tk, ⟨_, rfl⟩, e ▸ q⟩)
/-! ### what is under way, known in a body -/
def Cx.gs (X : Cx) (g : List Code) : Cx := { X with A := { X.A with guards := some g } }
theorem inv_gs {X : Cx} {g : List Code} {pins : List (Addr × Obj)} {σ : St} {H : Hp} {s : Shared} (I : Inv X pins σ H s) : Inv (Cx.gs X g) pins σ H s :=
  ⟨⟨I.ok.mod, I.ok.kind, I.ok.glob, I.ok.blt, I.ok.above, I.ok.inj, I.ok.has, I.ok.cab, I.ok.hd, I.ok.frames, I.ok.stk, I.ok.exf, I.ok.bs, I.ok.bsz, I.ok.noex, I.ok.exfs, I.ok.funs, I.ok.frf⟩, I.os, I.bare, I.base, I.loc, I.cell, I.free, I.freeC, I.pin, I.hok, I.len⟩
theorem inv_sg {X : Cx} {g : List Code} {pins : List (Addr × Obj)} {σ : St} {H : Hp} {s : Shared} (I : Inv (Cx.gs X g) pins σ H s) : Inv X pins σ H s :=
  ⟨⟨I.ok.mod, I.ok.kind, I.ok.glob, I.ok.blt, I.ok.above, I.ok.inj, I.ok.has, I.ok.cab, I.ok.hd, I.ok.frames, I.ok.stk, I.ok.exf, I.ok.bs, I.ok.bsz, I.ok.noex, I.ok.exfs, I.ok.funs, I.ok.frf⟩, I.os, I.bare, I.base, I.loc, I.cell, I.free, I.freeC, I.pin, I.hok, I.len⟩
theorem wp_gs {α : Type} {M : Model} {A : Around} {t : Sem α} {Q : α → Shared → Prop} {E : Value → Shared → Prop} {s : Shared} (h : ∀ g, wpAny M { A with guards := some g } t Q E s) : wpAny M A t Q E s :=
  fun Γ p hΓ => h (Γ.code.guards ++ guardsOf Γ.below) Γ p ⟨hΓ.1, hΓ.2.1, hΓ.2.2.1, fun g hg => Option.some.inj hg, hΓ.2.2.2.2⟩
/-- the reading of a body in which what is under way is known -/
def tGs (t : List Code → TS) : TS := fun D σ H => ∀ g, t g D σ H
theorem pss_gs {X : Cx} {b : List Stmt} {t : List Code → TS} (h : ∀ g, PSs (Cx.gs X g) b (t g)) : PSs X b (tGs t) :=
  ⟨fun pins s σ H D I q => wp_gs fun g => thn ((h g).run pins s σ H D (inv_gs I) (q g)) fun f s' z => by
    cases f with
    | next => obtain ⟨σ', H', J, q'⟩ := z; exact ⟨σ', H', inv_sg J, q'⟩
    | brk => obtain ⟨σ', H', J, q'⟩ := z; exact ⟨σ', H', inv_sg J, q'⟩
    | cont => obtain ⟨σ', H', J, q'⟩ := z; exact ⟨σ', H', inv_sg J, q'⟩
    | ret u => obtain ⟨v, σ', H', J, r, q'⟩ := z; exact ⟨v, σ', H', inv_sg J, r, q'⟩⟩
/-! ### isinstance(e, C), yes, e the error that the suite holds -/
open PySem.Spec PySem.Calls PyProof.Rows in
theorem isi_ans {K : PySem.W.Frag} {x t c : Value} {H : Heap → Prop} (ty : ∀ (M : Model) (h : Heap), H h → PySem.W.Looks M h (typeOf x) t) (ne : (t == c) = false) (e : PySem.W.kitCls K t c = some true) : Answers (fun s => K.In s.heap ∧ H s.heap) x c true := by
  rintro dep tk prog w A R ⟨h0, g, d, tt, os⟩ ⟨⟨X, p⟩, hq⟩
  have a1 := ty (model prog w) h0 p
  obtain ⟨a2, a3, a4⟩ := PySem.W.kit_cls (M := model prog w) X e
  have a5 : PySem.W.Looks (model prog w) h0 (isInstance x c) true := a1.andThen a4
  unfold Builtin.«isinstance.nested»
  refine wpAny_bind (a1.at (by rw [ne, if_neg Bool.false_ne_true]; exact wpAny_bind (a2.at (by
    rw [if_pos (by decide)]
    k_delta "plainIsInstance"
    refine wpAny_bind (wpAny_bind (a3.at ?_))
    simp only [Bool.not_true, Bool.false_eq_true, if_false]
    refine wpAny_bind (a5.at ?_)
    first
      | exact wpAny_pure (wpAny_pure (hq tt))
      | (simp only [if_true]; first | exact wpAny_pure (hq tt) | exact wpAny_bind (wpAny_pure (wpAny_pure (hq tt)))))) ))
/-- isinstance(e, C), e of the class D below C -/
def rIsY (K : PySem.W.Frag) (a : Addr) (cls : Value) : List V → Hp → VK → Prop := fun xs H Q => ∃ C D : Addr, xs = [.ref a, .ref C] ∧ cls = .ref D ∧ D ≠ C ∧ PySem.W.kitCls K (.ref D) (.ref C) = some true ∧ Q (.bl true) H
open PySem.Spec PySem.Calls PyProof.Rows in
theorem call_isY {X : Cx} {a : Addr} {oe : Obj} {cls : Value} {d : Option Addr} {pn : List (Addr × Obj)} (hz : Zc cls d oe) (hf : ∃ vs, oe.data = .fields vs) : CallR (X.suite a ((a, oe) :: pn)) (.builtin "isinstance") (rIsY X.K a cls) := by
  rintro pins s σ H xs us Q I r ⟨C, D, rfl, hc, ne, e, q⟩
  obtain ⟨u1, u2, rfl, r1, r2⟩ := vals2 r
  cases r1
  cases r2
  subst hc
  obtain ⟨hget, _⟩ := I.pin (a, oe) (List.mem_append.mpr (.inl List.mem_cons_self))
  obtain ⟨vs, hv⟩ := hf
  refine call_isinstance (S := fun _ R s => (X.K.In s.heap ∧ s.heap.get? a = some oe) ∧ ∀ tk, R (.ok (.ret (.bool true))) { s with toks := tk })
    (fun prog w A R s hs => isinstance_outer (isi_ans (x := .ref a) (t := .ref D) (H := fun h => h.get? a = some oe) (fun M h hh => ?_) (by simpa using ne) e 0 _ prog w A R s hs) (fun z => nomatch z)) ⟨⟨I.kIn, hget⟩, fun tk => ⟨.bl true, H, I.kept (t' := tk) fun _ _ z => z, rfl, q⟩⟩
  exact hz.1 ▸ (PySem.W.Looks.ld hh).andThen .now
/-! ### [.., o].index(o), both of one class without an __eq__ -/
theorem rc_own {A : Around} {s : Shared} {K : PySem.W.Frag} {x y C : Addr} {ox oy : Obj} {od oe : Option Obj} (hu : A.units < cLine) (X : K.In s.heap) (I : PySem.W.InstAt s.heap x ox C od) (J : PySem.W.InstAt s.heap y oy C oe) (ne : x ≠ y) (hm : PySem.W.mroIn K C (.type "object") = some true) (hs : PySem.W.findIn K (.ref C) "__eq__" = some (some (.builtin "object.__eq__"))) :
    SeqAt.RcAt A s (.ref x) (.ref y) false := fun prog w E Q h => by
  have nt : ∀ {o : Obj}, o.cls = .ref C → o.cls ≠ .type "tuple" := fun h z => by rw [h] at z; cases z
  have call1 : ∀ {x y : Addr} {ox oy : Obj} {od : Option Obj} {Q : Value → Shared → Prop}, PySem.W.InstAt s.heap x ox C od → s.heap.get? y = some oy → x ≠ y → Q .notImplemented s → wpAny (model prog w) A (call (.builtin "object.__eq__") [.ref x, .ref y]) Q E s := fun {x y ox oy od Q} I hy ne q =>
    wpAny_call (codeAny_call_builtin F.cmp_object.eq.plain F.cmpEntry_eq (PySem.W.check_slot F.cmpKind_eq F.cmpSplit_eq (I.type.andThen (PySem.W.looks_mroIn X hm)) (F.cmpArgs_eq _ _) (objEq_entry_other ne I.at_ hy (nt I.cls) q)))
  have one : ∀ {x y : Addr} {ox oy : Obj} {od : Option Obj}, PySem.W.InstAt s.heap x ox C od → s.heap.get? y = some oy → x ≠ y → wpAny (model prog w) A (tryCompare (.ref x) "__eq__" (.ref y)) (fun r s' => r = none ∧ s' = s) E s := fun {x y ox oy od} I hy ne => by
    unfold tryCompare
    exact wpAny_bind (HN.ifBound_objEq X I hs (call1 I hy ne (wpAny_pure ⟨rfl, rfl⟩)))
  simp only [richCompare, cmpInfo_Eq, oneThing_ref]
  refine wpAny_holding (wpAny_bind (wpAny_cRoomFor hu (wpAny_bind (I.type.here (wpAny_bind (J.type.here ?_))))))
  rw [if_neg (by simp)]
  refine wpAny_bind (wpAny_pure ?_)
  simp only [Bool.false_eq_true, if_false, Bool.not_false, if_true]
  refine wpAny_bind (m := tryCompare (.ref x) _ (.ref y)) (thn (one I J.at_ ne) fun r s1 z => ?_)
  obtain ⟨rfl, rfl⟩ := z
  refine wpAny_bind (m := tryCompare (.ref y) _ (.ref x)) (thn (one J I.at_ ne.symm) fun r s1 z => ?_)
  obtain ⟨rfl, rfl⟩ := z
  exact wpAny_bind (wpAny_rule (wpAny_bind (wpAny_isSame_ref_other ne I.at_ J.at_ (nt I.cls) (wpAny_pure h))))
/-- what is asked of the class -/
structure NoEq (K : PySem.W.Frag) (C : Addr) : Prop where
  mro : PySem.W.mroIn K C (.type "object") = some true
  eq : PySem.W.findIn K (.ref C) "__eq__" = some (some (.builtin "object.__eq__"))
/-- [p, q].index(q) -/
def rIdxO (K : PySem.W.Frag) (C : Addr) : V → List V → Hp → VK → Prop := fun x xs H Q => ∃ (l p q dx dy : Addr) (fs gs : List (Str × V)), x = .ref l ∧ xs = [.ref q] ∧ H l = some (.lst [.ref p, .ref q]) ∧ p ≠ q ∧ H p = some (.ins C dx fs) ∧ H q = some (.ins C dy gs) ∧ Q (.int 1) H
theorem mt_idxO {X : Cx} {C : Addr} (N : NoEq X.K C) (hu : X.A.units + 64 < cLine) : MtR X "list.index" (rIdxO X.K C) := by
  rintro pins s σ H x xs v us Q I rx rxs ⟨l, p, q, dx, dy, fs, gs, rfl, rfl, hl, ne, hp, hq, k⟩
  cases rx
  obtain ⟨u, rfl, ru⟩ := vals1 rxs
  cases ru
  obtain ⟨_, its, n, rv, ho⟩ := (show ObjOk X.prog X.w H s.heap l (.lst [.ref p, .ref q]) from I.hok l _ hl)
  obtain ⟨v1, v2, rfl, r1, r2⟩ := vals2 rv
  cases r1
  cases r2
  obtain ⟨m1, O1, _⟩ := ins_get I.hok hp
  obtain ⟨d1, J1, _⟩ := O1.look
  obtain ⟨m2, O2, _⟩ := ins_get I.hok hq
  obtain ⟨d2, J2, _⟩ := O2.look
  refine call_meets PySem.F.slot_list_index ⟨_, ho, rfl⟩ PySem.F.entry_list_index (PySem.F.args_list_index_2 _ _)
    (SeqAt.list_indexAt l [Value.ref p, Value.ref q].toArray n none #[] (.ref q) (fun z => z == .ref q) 1 (by simp) (by decide) (by simp) ?_) ⟨ho, ?_, ⟨.int 1, H, I.tok _, ⟨_, rfl⟩, k⟩⟩
  · intro m hm hmj
    obtain rfl : m = 0 := by omega
    simpa using ne
  · intro y hy
    simp only [List.mem_toArray, List.mem_cons, List.not_mem_nil, or_false] at hy
    rcases hy with rfl | rfl
    · have e : (Value.ref p == Value.ref q) = false := by simpa using ne
      rw [e]
      intro prog w E R h
      unfold eqBool
      refine wpAny_holding (wpAny_ite_split (fun hab => absurd hab (by rw [e]; exact Bool.false_ne_true)) (fun _ => ?_))
      exact wpAny_bind (rc_own (by show X.A.units + 1 < cLine; omega) I.kIn J1 J2 ne N.mro N.eq prog w E _ (wpAny_truthy_bool h))
    · have e : (Value.ref q == Value.ref q) = true := by simp
      rw [e]
      exact SeqAt.EqAt.same _
/-! ### C(e, ..) whose errors reach the wish of this def -/
def tMakeW (C : Addr) (sp : Sp) (E : St → XK) (t : TA) : TE := fun σ H Q => t σ H fun vs H1 => MakeR C sp vs H1 Q (E σ)
theorem w_makeW {C : Addr} {sp : Sp} {E : St → XK} {t : TA} {σ : St} {H : Hp} {Q : VK} (h : t σ H fun vs H1 => MakeR C sp vs H1 Q (E σ)) : tMakeW C sp E t σ H Q := h
theorem pe_makeW {X : Cx} {x : Str} {C : Addr} {k : Nat} {sp : Sp} {W : WX} {e : Expr} {es : List Expr} {t : TA} {p pos : Pos} (tk : Takes X W) (D : KOk X x C k sp) (hr : Room (k + 1) X.A) (hg : Gl X x) (ha : PA X (e :: es) t) (hdb : (x == ("__debug__" : Str)) = false := by decide)
    (he : Star1 X e es := by exact rfl) (hpl : NoStar X es pos := by exact rfl) : PE X (.Call (.Name x p) (e :: es) [] pos) (tMakeW C sp (WE W) t) := by
  obtain ⟨f, fd, ps, M, hm, b, F⟩ := D.ex
  refine ⟨fun pins s σ H Q I h => wpAny_Call_Name_kw (ld_glob I hg hm (PySem.W.callWith_K (h₀ := X.base) I.ok.mod.kin M.kp (thn (ha.run pos pins s σ H _ I h) ?_) he hpl) hdb)⟩
  rintro us s1 ⟨vs, H1, I1, r, q⟩
  refine ⟨I1.kIn, ?_⟩
  have n1 : H1 (s1.heap.objs.size + 1) = none := I1.hok.fresh (Nat.le_succ _)
  have n0 : H1 s1.heap.objs.size = none := I1.hok.fresh (Nat.le_refl _)
  have hq := q _ _ n1 n0 (Nat.ne_of_lt (Nat.lt_succ_self _))
  have J := Inv.made (C := C) I1
  have r2 : Vals (V.ref (s1.heap.objs.size + 1) :: vs) (Value.ref (s1.heap.objs.size + 1) :: us) := .cons rfl r
  have len : (Value.ref (s1.heap.objs.size + 1) :: us).length = ps.length := by rw [← r2.length]; exact F.len _ _ _ _ hq
  have bd := b _ (Value.ref (s1.heap.objs.size + 1) :: us) J.kIn (by rw [List.append_nil]; exact len)
  rw [List.append_nil] at bd
  refine wpAny_call (make_map (f := f) I1.kIn M.makes M.init (beq_iff_eq.mp M.fn) (codeAny_mono (F.run _ X.stack _ _ _ _ _ _ _ (hr.make C us []) (J.env0.make C us []) bd r2 hq) ?_))
  rintro (er | fl) s2 hz
  · exact passAt tk σ pins _ _ er s2 J hz
  · cases fl with
    | ret u =>
      obtain ⟨v, H', I3, rv, rfl, q3⟩ := J.after hz
      exact ⟨rv, .ref _, H', I3, rfl, q3⟩
    | next => exact hz.elim
    | brk => exact hz.elim
    | cont => exact hz.elim
theorem w_callS {sp : Sp} {E : St → XK} {t : TA} {σ : St} {H : Hp} {Q : VK} (h : t σ H fun vs H1 => sp vs H1 Q (E σ)) : tCallS sp E t σ H Q := h

/-! ### try: .. / except A as e: .. / except B as e: .., one name -/
/-- the ends of a suite whose error's name stands in slot i -/
def endsE (i : Nat) (D : Ends) : Ends := { nx := fun σ H => D.nx (σ.set i none) H, rt := D.rt, bk := fun σ H => D.bk (σ.set i none) H, ct := fun σ H => D.ct (σ.set i none) H }
abbrev Hds := List (Value × (Addr → Value → Option Addr → TS))
/-- what the clauses ask of an error; n: so many slots -/
def wAsL (K : PySem.W.Frag) (n i : Nat) (Wo : WX) (D : Ends) : Hds → WX
  | [] => Wo
  | q :: r => fun cls d σ H => ∃ b, PySem.W.exmOne K cls q.1 = some b ∧ (b = true → σ.length = n → ∀ a, H a = none → q.2 a cls d (endsE i D) (σ.set i (some (.ref a))) H) ∧ (b = false → wAsL K n i Wo D r cls d σ H)
/-- the clauses and their readings -/
inductive AsOk (X : Cx) (e : Str) : List ExceptHandler → Hds → Prop
  | nil : AsOk X e [] []
  | cons {x : Str} {c : Value} {ts : Addr → Value → Option Addr → TS} {b₀ : Stmt} {b : List Stmt} {p1 p2 : Pos} {hs : List ExceptHandler} {l : Hds} (hc : Names X x c)
      (hb : ∀ (a : Addr) (oe : Obj) (cls : Value) (d : Option Addr) (pn : List (Addr × Obj)), Zc cls d oe → (∃ vs, oe.data = .fields vs) → PSs (X.suite a ((a, oe) :: pn)) (b₀ :: b) (ts a cls d)) (r : AsOk X e hs l) :
      AsOk X e (.ExceptHandler (some (.Name x p1)) (some e) (b₀ :: b) p2 :: hs) ((c, ts) :: l)
section
open PySem.Spec PyProof.Rows
variable {X : Cx} {e : Str} {i : Nat} {B : List Stmt} {k₀ : ExceptHandler} {ks : List ExceptHandler} {l : Hds} {pos : Pos} {tb : WX → TS} {Wo : WX}
theorem ps_tryAs (hs : X.stack = X.env :: X.outer) (hf : X.env.frame = some X.env.locals) (hN : X.N.Nodup) (hi : X.N[i]? = some e) (hl : X.env.kindOf e = some .local) (tk : Takes X Wo)
    (hb : ∀ (W : WX) (pn : List (Addr × Obj)) (xe : Value → Shared → Prop), Takes (X.tr pn xe) W → PassesOwn (model X.prog X.w) X.A X.env xe → PSs (X.tr pn xe) B (tb W))
    (hk : AsOk X e (k₀ :: ks) l) : PS X (.Try B (k₀ :: ks) [] [] pos) (fun D σ H => tb (wAsL X.K X.N.length i Wo D l) D σ H) := by
  constructor
  intro pins s σ H D I h
  have ok := I.ok
  have fr : X.A.frames = some (X.env :: X.outer) := ok.frames.trans (congrArg some hs)
  have lo : Loc X.env.scope e := Or.inl hl
  apply wpAny_Try_except
  have run := (hb (wAsL X.K X.N.length i Wo D l) (X.pn ++ pins) (fun u s1 => wpAny (model X.prog X.w) X.A (noteFrame u X.env)
    (fun _ s2 => wpAny (model X.prog X.w) X.A (setFlight u none) (fun _ s3 => wpAny (model X.prog X.w) X.A (handleBy u X.env (k₀ :: ks)) (SP X pins D) X.xe s3) X.xe s2) X.xe s1) ?tk PassesOwn.looking).run [] s σ H D (I.toTry _) h
  case tk =>
    rintro u s' ⟨a, G, sI, pins', σ', H', cls, d, rfl, J', nb, up, sky, na, os, ag, w⟩
    have J : Inv X pins σ' H' sI := J'.ofTry ok
    rw [hs] at sky
    refine Sky.land (s := s') Zc.steady fr hf sky fun h3 fl3 up3 => ?_
    have J3 : Inv X pins σ' H' { s' with heap := h3 } := J.landed nb fl3.1 (up.trans up3) os ag
    obtain ⟨o3, v3, g3, z3, d3⟩ := fl3.there
    have off : a ∉ frs (X.env :: X.outer) := by
      intro hm
      obtain ⟨_, o', g', no⟩ := fl3.2.2.1.mem hm
      rw [g3] at g'
      cases g'
      exact no _ d3
    have offL : a ≠ X.env.locals := by
      rintro rfl
      exact off (List.mem_filterMap.mpr ⟨X.env, List.mem_cons_self, hf⟩)
    have offF : a ∉ X.fs := by
      intro hm
      obtain ⟨v, hv, q⟩ := List.mem_filterMap.mp hm
      exact off (List.mem_filterMap.mpr ⟨v, List.mem_cons_of_mem _ hv, q⟩)
    have S3 := J3.suite g3 d3 na offL offF
    suffices go : ∀ {hds : List ExceptHandler} {m : Hds}, AsOk X e hds m → wAsL X.K X.N.length i Wo D m cls d σ' H' → wpAny (model X.prog X.w) X.A (handleBy (.ref a) X.env hds) (SP X pins D) X.xe { s' with heap := h3 } from go hk w
    intro hds m hm
    induction hm with
    | nil =>
      intro w
      apply wpAny_handleBy_nil
      obtain ⟨_, _, _, oe, vs, T, _, _, he, _, hd, h1, _⟩ := id fl3
      unfold PySem.passOn
      refine wpAny_bind (wpAny_field he hd h1 ?_)
      rw [if_neg (by simp : ¬ ((Value.ref T == Value.none) = true))]
      have out : wpAny (model X.prog X.w) X.A (setFlight (.ref a) X.env.frame) (fun _ s4 => wpAny (model X.prog X.w) X.A (throw (.ref a) : Sem Flow) (SP X pins D) X.xe s4) X.xe { s' with heap := h3 } := by
        rw [hf]
        refine HandSPX.setFlight_upZ fl3 fun h4 f4 up4 => wpAny_throw (tk _ _ ?_)
        refine ⟨a, G, sI, pins, σ', H', cls, d, rfl, J, nb, (up.trans up3).trans up4, .inr (.inr ?_), na, os, ag, w⟩
        rw [hs]
        exact f4
      first
        | exact wpAny_bind out
        | exact wpAny_bind (wpAny_pure (wpAny_bind out))
    | @cons x c ts b₀ b p1 p2 hs2 l2 hc hbd r ih =>
      rintro ⟨b', hb1, yes, no⟩
      refine wpAny_handleBy_cons (codeAny_handlers_test ?_) (fun q => by cases q)
      have L1 : PySem.W.Looks (model X.prog X.w) h3 (typeOf (.ref a)) cls := fun _ _ _ _ kp q => wpAny_typeOf_ref (kp _ _ g3) (z3.1.symm ▸ q)
      have LM := PySem.W.exm_one (M := model X.prog X.w) J3.kIn L1 hb1
      have tst : ∀ {Q : Value → Shared → Prop} {E : Value → Shared → Prop}, Q c { s' with heap := h3 } → wpAny (model X.prog X.w) (X.A.mark (some (.ref a))) (eval (.Name x p1) X.env) Q E { s' with heap := h3 } := by
        intro Q E q
        rcases hc with ⟨hg, hdb, hm | ⟨hm, hv, hn⟩⟩
        · exact ld_glob (X := X.suite a ((a, o3) :: (X.pn ++ pins))) S3 hg hm q hdb
        · exact ld_blt (X := X.suite a ((a, o3) :: (X.pn ++ pins))) S3 hg hm hv q hn hdb
      refine tst (LM.here ?_)
      cases b' with
      | false => exact ih (no rfl)
      | true =>
        apply codeAny_handlers_suite_as
        refine HandSPX.lands_againZ fl3 fun h4 fl4 up4 => ?_
        have J4 : Inv X pins σ' H' { s' with heap := h4 } := J.landed nb fl4.1 ((up.trans up3).trans up4) os ag
        obtain ⟨o4, v4, g4, z4, d4⟩ := fl4.there
        refine store_ok (X := X.suite a ((a, o4) :: (X.pn ++ pins))) (v := .ref a) (J4.suite g4 d4 na offL offF) hN hi lo rfl (fun s5 S5 => ?_) (.inr hl)
        refine wpAny_mono ((hbd a o4 cls d (X.pn ++ pins) z4 ⟨_, d4⟩).run [] s5 _ H' _ S5 (yes rfl J.len a na)) (fun f s6 z => ?_) (fun _ _ z => z.elim)
        have fin : ∀ {σ6 : L2.St} {H6 : Hp} {Q : Shared → Prop}, Inv (X.suite a ((a, o4) :: (X.pn ++ pins))) [] σ6 H6 s6 → (∀ s7, Inv X pins (σ6.set i none) H6 s7 → Q s7) →
            wpAny (model X.prog X.w) X.A (do bindName X.env e .none; unbindBehindTheSuite X.env e p2) (fun _ s7 => Q s7) X.xe s6 := fun S6 hq => gone_ok (S6.unsuite ok) hN hi hl hq
        cases f with
        | ret u =>
          obtain ⟨v6, σ6, H6, S6, r6, q6⟩ := z
          exact fin S6 fun s7 J7 => ⟨v6, _, _, J7, r6, q6⟩
        | next =>
          obtain ⟨σ6, H6, S6, q6⟩ := z
          exact fin S6 fun s7 J7 => ⟨_, H6, J7, q6⟩
        | brk =>
          obtain ⟨σ6, H6, S6, q6⟩ := z
          exact fin S6 fun s7 J7 => ⟨_, H6, J7, q6⟩
        | cont =>
          obtain ⟨σ6, H6, S6, q6⟩ := z
          exact fin S6 fun s7 J7 => ⟨_, H6, J7, q6⟩
  refine wpAny_mono run (fun f s1 z => ?_) fun _ _ z => z
  cases f with
  | next =>
    obtain ⟨σ', H', K', q⟩ := z
    exact wpAny_execs_nil ⟨σ', H', K'.ofTry ok, q⟩
  | ret u =>
    obtain ⟨v, σ', H', K', r, q⟩ := z
    exact ⟨v, σ', H', K'.ofTry ok, r, q⟩
  | brk =>
    obtain ⟨σ', H', K', q⟩ := z
    exact ⟨σ', H', K'.ofTry ok, q⟩
  | cont =>
    obtain ⟨σ', H', K', q⟩ := z
    exact ⟨σ', H', K'.ofTry ok, q⟩
end
/-! ### what a def is handed is called -/
def tAct (f c' : Addr) (q : Str) (tl : XK → Hp → VK → Prop) (W : WX) : TE := fun σ H Q => ∃ (E : XK) (Q' : VK), (∀ cls d σ' H', E cls d H' → W cls d σ' H') ∧ σ[0]? = some (some (.ref f)) ∧ H c' = some (LamX.CodeO c' q) ∧ tl E H Q' ∧ ∀ v H1, Q' v H1 → Q v H1
theorem pe_act2 {Y : Cx} {e : Expr} {f c' : Addr} {q : Str} {tl : XK → Hp → VK → Prop} {W : WX} (act : ∀ E : XK, (∀ cls d σ' H', E cls d H' → W cls d σ' H') → PE Y e (fun σ H Q => σ[0]? = some (some (.ref f)) ∧ H c' = some (LamX.CodeO c' q) ∧ tl E H Q)) : PE Y e (tAct f c' q tl W) :=
  ⟨fun pins s σ H Q I ⟨E, Q', hW, h1, h2, h3, m⟩ => thn ((act E hW).run pins s σ H Q' I ⟨h1, h2, h3⟩) fun u s' ⟨v, H1, J, r, z⟩ => ⟨v, H1, J, r, m v H1 z⟩⟩
/-! ### a def whose code object is known -/
theorem fun_okc {P : Program} {w : World} {K : PySem.W.Frag} {mg : Str → Option Value} {base : Heap} {x qual : Str} {st : Stmt} {f : Addr} {oc kV doc pm cdv ct : Value} {od an : Option Addr} {osl : Array (Option Value)} {N ps : List Str} {k : Nat} {sp : Sp}
    (lk : K.lookup f = some ⟨oc, od, .func (PySem.W.fnOf x qual (defArgs st) (defBody st) (defScope st) .none kV doc pm an cdv ct), osl⟩) (hcd : PySem.W.codeIn K cdv qual = true) (S : FnScope N ps (defScope st)) (len : ∀ vs H Q E, sp vs H Q E → vs.length = ps.length)
    (hb : ∀ (A : Around) (outer : List Env) (s : Shared) (H : Hp) (vs : List V) (Q : VK) (E : XK), Room k (A.deeper (PyProof.Rows.envOfC qual (defScope st) s.heap.objs.size f cdv)) → sp vs H Q E →
      ∃ t, PSs (cxOf CX0 P w K mg base N qual (defScope st) f cdv A outer s H E).nox (defBody st) t ∧ t { nx := fun _ H' => Q .non H', rt := Q } (start N vs) H) :
    FnOk P w K mg base CX0 (k + 1) f (PySem.W.fnOf x qual (defArgs st) (defBody st) (defScope st) .none kV doc pm an cdv ct) ps sp :=
  fn_of lk hcd S len fun A outer s H vs Q E hr hsp => let ⟨t, h, q⟩ := hb A outer s H vs Q E hr hsp; ⟨t, h.nox, q⟩
/-! ### tables of code objects, what is kept of them -/
theorem Tabs.fr {T : List (Addr × Str)} {H H' : Hp} {st ls : Addr} {n : Nat} (t : LamX.Tabs T H) (hs : StrAt H st ls n) (f : Fr st ls H H') : LamX.Tabs T H' := fun q hq => by
  obtain ⟨_, _, _, _, _, h1, h2, _⟩ := hs
  obtain ⟨ps, e1, e2, e3⟩ := t q hq
  have at1 : ∀ b, (∃ ps, H b = some (.tbl ps)) ∨ H b = some (LamX.CodeO b q.2) → b ≠ st ∧ b ≠ ls := fun b hb => by
    constructor
    · rintro rfl
      rcases hb with ⟨_, hb⟩ | hb
      · rw [h1] at hb; cases hb
      · rw [h1] at hb; unfold LamX.CodeO at hb; cases hb
    · rintro rfl
      rcases hb with ⟨_, hb⟩ | hb
      · rw [h2] at hb; cases hb
      · rw [h2] at hb; unfold LamX.CodeO at hb; cases hb
  refine ⟨ps, f _ _ (at1 _ (.inl ⟨ps, e1⟩)).1 (at1 _ (.inl ⟨ps, e1⟩)).2 e1, e2, fun pos cv hc => ?_⟩
  obtain ⟨c, a, b⟩ := e3 pos cv hc
  exact ⟨c, a, f _ _ (at1 c (.inr b)).1 (at1 c (.inr b)).2 b⟩

def top (i : Nat) : Stmt := PySem.Challenge.pw_fieldberth_k36_octets_read_and_set.main.body.getD i (.Pass ⟨0, 0, 0, 0⟩)
abbrev s__wall : Stmt := top 0
abbrev N__wall : List Str := ["k"]
abbrev P__wall : List Str := ["k"]
theorem sc__wall : FnScope N__wall P__wall (defScope s__wall) := ⟨rfl, rfl, rfl, by decide +kernel, rfl, by decide +kernel, by decide +kernel⟩
abbrev s_is_whole : Stmt := top 2
abbrev N_is_whole : List Str := ["value"]
abbrev P_is_whole : List Str := ["value"]
theorem sc_is_whole : FnScope N_is_whole P_is_whole (defScope s_is_whole) := ⟨rfl, rfl, rfl, by decide +kernel, rfl, by decide +kernel, by decide +kernel⟩
abbrev s_BadOctet___init__ : Stmt := inClass (top 5) 0
abbrev N_BadOctet___init__ : List Str := ["self", "value"]
abbrev P_BadOctet___init__ : List Str := ["self", "value"]
theorem sc_BadOctet___init__ : FnScope N_BadOctet___init__ P_BadOctet___init__ (defScope s_BadOctet___init__) := ⟨rfl, rfl, rfl, by decide +kernel, rfl, by decide +kernel, by decide +kernel⟩
abbrev s_BadAddress___init__ : Stmt := inClass (top 6) 0
abbrev N_BadAddress___init__ : List Str := ["self", "octet"]
abbrev P_BadAddress___init__ : List Str := ["self", "octet"]
theorem sc_BadAddress___init__ : FnScope N_BadAddress___init__ P_BadAddress___init__ (defScope s_BadAddress___init__) := ⟨rfl, rfl, rfl, by decide +kernel, rfl, by decide +kernel, by decide +kernel⟩
abbrev s_Memory___init__ : Stmt := inClass (top 8) 0
abbrev N_Memory___init__ : List Str := ["self", "octets"]
abbrev P_Memory___init__ : List Str := ["self", "octets"]
theorem sc_Memory___init__ : FnScope N_Memory___init__ P_Memory___init__ (defScope s_Memory___init__) := ⟨rfl, rfl, rfl, by decide +kernel, rfl, by decide +kernel, by decide +kernel⟩
abbrev s_Memory___len__ : Stmt := inClass (top 8) 1
abbrev N_Memory___len__ : List Str := ["self"]
abbrev P_Memory___len__ : List Str := ["self"]
theorem sc_Memory___len__ : FnScope N_Memory___len__ P_Memory___len__ (defScope s_Memory___len__) := ⟨rfl, rfl, rfl, by decide +kernel, rfl, by decide +kernel, by decide +kernel⟩
abbrev s_Memory___iter__ : Stmt := inClass (top 8) 2
abbrev N_Memory___iter__ : List Str := ["self"]
abbrev P_Memory___iter__ : List Str := ["self"]
theorem sc_Memory___iter__ : FnScope N_Memory___iter__ P_Memory___iter__ (defScope s_Memory___iter__) := ⟨rfl, rfl, rfl, by decide +kernel, rfl, by decide +kernel, by decide +kernel⟩
abbrev s_Memory___getitem__ : Stmt := inClass (top 8) 3
abbrev N_Memory___getitem__ : List Str := ["self", "at"]
abbrev P_Memory___getitem__ : List Str := ["self", "at"]
theorem sc_Memory___getitem__ : FnScope N_Memory___getitem__ P_Memory___getitem__ (defScope s_Memory___getitem__) := ⟨rfl, rfl, rfl, by decide +kernel, rfl, by decide +kernel, by decide +kernel⟩
abbrev s_Memory___setitem__ : Stmt := inClass (top 8) 4
abbrev N_Memory___setitem__ : List Str := ["self", "at", "worth"]
abbrev P_Memory___setitem__ : List Str := ["self", "at", "worth"]
theorem sc_Memory___setitem__ : FnScope N_Memory___setitem__ P_Memory___setitem__ (defScope s_Memory___setitem__) := ⟨rfl, rfl, rfl, by decide +kernel, rfl, by decide +kernel, by decide +kernel⟩
abbrev s_Memory_octets : Stmt := inClass (top 8) 5
abbrev N_Memory_octets : List Str := ["self"]
abbrev P_Memory_octets : List Str := ["self"]
theorem sc_Memory_octets : FnScope N_Memory_octets P_Memory_octets (defScope s_Memory_octets) := ⟨rfl, rfl, rfl, by decide +kernel, rfl, by decide +kernel, by decide +kernel⟩
abbrev s_Memory_move : Stmt := inClass (top 8) 6
abbrev N_Memory_move : List Str := ["self", "to", "source", "many"]
abbrev P_Memory_move : List Str := ["self", "to", "source", "many"]
theorem sc_Memory_move : FnScope N_Memory_move P_Memory_move (defScope s_Memory_move) := ⟨rfl, rfl, rfl, by decide +kernel, rfl, by decide +kernel, by decide +kernel⟩
abbrev s_is_octet : Stmt := top 9
abbrev N_is_octet : List Str := ["value"]
abbrev P_is_octet : List Str := ["value"]
theorem sc_is_octet : FnScope N_is_octet P_is_octet (defScope s_is_octet) := ⟨rfl, rfl, rfl, by decide +kernel, rfl, by decide +kernel, by decide +kernel⟩
abbrev s_is_address : Stmt := top 10
abbrev N_is_address : List Str := ["value", "length"]
abbrev P_is_address : List Str := ["value", "length"]
theorem sc_is_address : FnScope N_is_address P_is_address (defScope s_is_address) := ⟨rfl, rfl, rfl, by decide +kernel, rfl, by decide +kernel, by decide +kernel⟩
abbrev s_checked_octets : Stmt := top 11
abbrev N_checked_octets : List Str := ["octets", "value"]
abbrev P_checked_octets : List Str := ["octets"]
theorem sc_checked_octets : FnScope N_checked_octets P_checked_octets (defScope s_checked_octets) := ⟨rfl, rfl, rfl, by decide +kernel, rfl, by decide +kernel, by decide +kernel⟩
abbrev s__law_draw : Stmt := top 13
abbrev N__law_draw : List Str := ["_law_stream", "_law_many", "_law_digit", "_law_mixed", "_law_last"]
abbrev P__law_draw : List Str := ["_law_stream", "_law_many"]
theorem sc__law_draw : FnScope N__law_draw P__law_draw (defScope s__law_draw) := ⟨rfl, rfl, rfl, by decide +kernel, rfl, by decide +kernel, by decide +kernel⟩
abbrev s__law_pick : Stmt := top 14
abbrev N__law_pick : List Str := ["_law_stream", "_law_some"]
abbrev P__law_pick : List Str := ["_law_stream", "_law_some"]
theorem sc__law_pick : FnScope N__law_pick P__law_pick (defScope s__law_pick) := ⟨rfl, rfl, rfl, by decide +kernel, rfl, by decide +kernel, by decide +kernel⟩
abbrev s__law_same : Stmt := top 15
abbrev N__law_same : List Str := ["_law_found", "_law_due", "_law_one", "_law_two"]
abbrev P__law_same : List Str := ["_law_found", "_law_due"]
theorem sc__law_same : FnScope N__law_same P__law_same (defScope s__law_same) := ⟨rfl, rfl, rfl, by decide +kernel, rfl, by decide +kernel, by decide +kernel⟩
abbrev s__law_some_octets : Stmt := top 16
abbrev N__law_some_octets : List Str := ["_law_stream", "_law_many", "_law_k"]
abbrev P__law_some_octets : List Str := ["_law_stream", "_law_many"]
theorem sc__law_some_octets : FnScope N__law_some_octets P__law_some_octets (defScope s__law_some_octets) := ⟨rfl, rfl, rfl, by decide +kernel, rfl, by decide +kernel, by decide +kernel⟩
abbrev s__law_told : Stmt := top 17
abbrev N__law_told : List Str := ["_law_ask", "_law_found", "e"]
abbrev P__law_told : List Str := ["_law_ask"]
theorem sc__law_told : FnScope N__law_told P__law_told (defScope s__law_told) := ⟨rfl, rfl, rfl, by decide +kernel, rfl, by decide +kernel, by decide +kernel⟩
abbrev s__law_set : Stmt := top 18
abbrev N__law_set : List Str := ["_law_memory", "_law_k", "_law_value"]
abbrev P__law_set : List Str := ["_law_memory", "_law_k", "_law_value"]
theorem sc__law_set : FnScope N__law_set P__law_set (defScope s__law_set) := ⟨rfl, rfl, rfl, by decide +kernel, rfl, by decide +kernel, by decide +kernel⟩
abbrev s__law_is_very : Stmt := top 19
abbrev N__law_is_very : List Str := ["_law_memory", "_law_thing", "_law_word", "_law_found", "e"]
abbrev P__law_is_very : List Str := ["_law_memory", "_law_thing", "_law_word"]
theorem sc__law_is_very : FnScope N__law_is_very P__law_is_very (defScope s__law_is_very) := ⟨rfl, rfl, rfl, by decide +kernel, rfl, by decide +kernel, by decide +kernel⟩
abbrev s__law_is_place : Stmt := top 20
abbrev N__law_is_place : List Str := ["_law_thing", "_law_many"]
abbrev P__law_is_place : List Str := ["_law_thing", "_law_many"]
theorem sc__law_is_place : FnScope N__law_is_place P__law_is_place (defScope s__law_is_place) := ⟨rfl, rfl, rfl, by decide +kernel, rfl, by decide +kernel, by decide +kernel⟩
abbrev s_law : Stmt := top 21
abbrev N_law : List Str := ["_law_script", "_law_stream", "_law_turn", "_law_rows", "_law_many", "_law_odd", "_law_values", "_law_deed", "_law_is_there", "_law_due", "_law_memory", "_law_thing", "_law_value"]
abbrev P_law : List Str := ["_law_script"]
theorem sc_law : FnScope N_law P_law (defScope s_law) := ⟨rfl, rfl, rfl, by decide +kernel, rfl, by decide +kernel, by decide +kernel⟩
local macro_rules | `(tactic| left) => `(tactic| (repeat (first | with_reducible refine w_seq ?_ | with_reducible refine w_next ?_ | with_reducible refine w_asg ?_ | with_reducible refine w_drop ?_ | with_reducible refine w_ret ?_ | with_reducible refine w_if ?_ | with_reducible refine w_name ?_ | with_reducible refine w_sub ?_ | with_reducible refine w_c ?_ | with_reducible refine w_op ?_ | with_reducible refine w_un ?_ | with_reducible refine w_U ?_ | with_reducible refine w_I0 ?_ | with_reducible refine w_test ?_ | with_reducible refine w_B ?_ | with_reducible refine w_bl ?_ | with_reducible refine w_not ?_ | with_reducible refine w_and ?_ | with_reducible refine w_or ?_ | with_reducible refine w_ifE ?_ | with_reducible refine w_andV ?_ | with_reducible refine w_orV ?_ | with_reducible refine w_notV ?_ | with_reducible refine w_chain ?_ | with_reducible refine w_nil ?_ | with_reducible refine w_cons ?_ | with_reducible refine w_lst ?_ | with_reducible refine w_tup ?_ | with_reducible refine w_cb ?_ | with_reducible refine w_bm ?_ | with_reducible refine w_call ?_ | with_reducible refine w_int1 ?_ | with_reducible refine w_max ?_ | with_reducible refine w_min ?_ | with_reducible refine w_lc ?_ | with_reducible refine w_for ?_ | with_reducible refine w_rng1 ?_ | with_reducible refine w_listI ?_ | with_reducible refine w_tupI ?_ | with_reducible refine w_zipI ?_ | with_reducible refine w_yes ?_ | with_reducible refine w_turn ?_ | with_reducible refine iteT ?_ | with_reducible refine iteF ?_ | with_reducible refine w_gcons ?_ | with_reducible refine w_gnil ?_ | with_reducible refine w_fld ?_ | with_reducible refine w_sfld ?_ | with_reducible refine w_make ?_ | with_reducible refine w_meth ?_ | with_reducible refine w_gsl ?_ | with_reducible refine w_err ?_ | with_reducible refine w_sl ?_ | with_reducible refine w_part ?_ | with_reducible refine w_nopart ?_ | with_reducible refine w_partGo ?_ | with_reducible refine w_methW ?_ | with_reducible refine w_xf ?_ | with_reducible refine w_isB ?_ | with_reducible refine w_iteSame ?_ | with_reducible refine w_iteNSame ?_ | with_reducible refine w_iteNT ?_ | with_reducible refine w_iteNF ?_ | with_reducible refine w_ipI ?_ | with_reducible refine w_isN ?_ | with_reducible refine w_notN ?_ | with_reducible refine w_iteIntNon ?_ | with_reducible refine w_iteNIntNon ?_ | with_reducible refine w_iteNonInt ?_ | with_reducible refine w_par ?_ | with_reducible refine w_par3 ?_ | with_reducible refine w_parGo ?_ | with_reducible refine w_parGo3 ?_ | with_reducible refine w_makeW ?_ | with_reducible refine w_callS ?_ | with_reducible refine w_prop ?_ | with_reducible refine w_item ?_ | with_reducible refine w_gitem ?_ | ((with_reducible apply w_var); (focus rfl)) | ((with_reducible apply w_aug); (focus rfl)) | ((with_reducible refine w_iteStrNe ?_ ?_); (focus decide +kernel)) | ((with_reducible refine w_iteNStrNe ?_ ?_); (focus decide +kernel)) | ((with_reducible refine w_eq ?_ ?_); (focus rfl)) | ((with_reducible refine w_ne ?_ ?_); (focus rfl)) | ((with_reducible apply w_ixL); (focus ((repeat (first | with_reducible exact upd_same | (with_reducible refine hg_new (by assumption) ?_) | (with_reducible refine hg_ne (by first | assumption | exact Ne.symm (by assumption) | exact ne_of_none (by assumption) (by assumption) | exact Ne.symm (ne_of_none (by assumption) (by assumption))) ?_))); first | done | assumption | exact upd_same)); (focus rfl)) | ((with_reducible apply w_ixT); (focus ((repeat (first | with_reducible exact upd_same | (with_reducible refine hg_new (by assumption) ?_) | (with_reducible refine hg_ne (by first | assumption | exact Ne.symm (by assumption) | exact ne_of_none (by assumption) (by assumption) | exact Ne.symm (ne_of_none (by assumption) (by assumption))) ?_))); first | done | assumption | exact upd_same)); (focus rfl)) | ((with_reducible apply w_setL); (focus ((repeat (first | with_reducible exact upd_same | (with_reducible refine hg_new (by assumption) ?_) | (with_reducible refine hg_ne (by first | assumption | exact Ne.symm (by assumption) | exact ne_of_none (by assumption) (by assumption) | exact Ne.symm (ne_of_none (by assumption) (by assumption))) ?_))); first | done | assumption | exact upd_same)); (focus rfl)) | ((with_reducible apply w_len); (focus ((repeat (first | with_reducible exact upd_same | (with_reducible refine hg_new (by assumption) ?_) | (with_reducible refine hg_ne (by first | assumption | exact Ne.symm (by assumption) | exact ne_of_none (by assumption) (by assumption) | exact Ne.symm (ne_of_none (by assumption) (by assumption))) ?_))); first | done | assumption | exact upd_same))) | ((with_reducible apply w_lenT); (focus ((repeat (first | with_reducible exact upd_same | (with_reducible refine hg_new (by assumption) ?_) | (with_reducible refine hg_ne (by first | assumption | exact Ne.symm (by assumption) | exact ne_of_none (by assumption) (by assumption) | exact Ne.symm (ne_of_none (by assumption) (by assumption))) ?_))); first | done | assumption | exact upd_same))) | ((with_reducible apply w_list); (focus ((repeat (first | with_reducible exact upd_same | (with_reducible refine hg_new (by assumption) ?_) | (with_reducible refine hg_ne (by first | assumption | exact Ne.symm (by assumption) | exact ne_of_none (by assumption) (by assumption) | exact Ne.symm (ne_of_none (by assumption) (by assumption))) ?_))); first | done | assumption | exact upd_same))) | ((with_reducible apply w_fldGo); (focus ((repeat (first | with_reducible exact upd_same | (with_reducible refine hg_new (by assumption) ?_) | (with_reducible refine hg_ne (by first | assumption | exact Ne.symm (by assumption) | exact ne_of_none (by assumption) (by assumption) | exact Ne.symm (ne_of_none (by assumption) (by assumption))) ?_))); first | done | assumption | exact upd_same)); (focus assumption); (focus assumption); (focus (first | exact lk_one | (focus (simp [List.lookup]; done)) | rfl))) | ((with_reducible apply w_sfldGo); (focus ((repeat (first | with_reducible exact upd_same | (with_reducible refine hg_new (by assumption) ?_) | (with_reducible refine hg_ne (by first | assumption | exact Ne.symm (by assumption) | exact ne_of_none (by assumption) (by assumption) | exact Ne.symm (ne_of_none (by assumption) (by assumption))) ?_))); first | done | assumption | exact upd_same)); (focus assumption); (focus assumption); (focus decide)) | ((with_reducible apply w_methGo); (focus ((repeat (first | with_reducible exact upd_same | (with_reducible refine hg_new (by assumption) ?_) | (with_reducible refine hg_ne (by first | assumption | exact Ne.symm (by assumption) | exact ne_of_none (by assumption) (by assumption) | exact Ne.symm (ne_of_none (by assumption) (by assumption))) ?_))); first | done | assumption | exact upd_same)); (focus first | exact lk_no (by decide +kernel) | rfl | (simp [List.lookup]; done))) | ((with_reducible apply w_xfGo); (focus ((repeat (first | with_reducible exact upd_same | (with_reducible refine hg_new (by assumption) ?_) | (with_reducible refine hg_ne (by first | assumption | exact Ne.symm (by assumption) | exact ne_of_none (by assumption) (by assumption) | exact Ne.symm (ne_of_none (by assumption) (by assumption))) ?_))); first | done | assumption | exact upd_same)); (focus (first | exact lk_one | (focus (simp [List.lookup]; done)) | rfl))) | ((with_reducible apply w_isi (r := true)); (focus (first | exact .base (.int _) | exact .base .non | exact .base (.bl _) | exact .base (.str _) | exact .base (.lst (by ((repeat (first | with_reducible exact upd_same | (with_reducible refine hg_new (by assumption) ?_) | (with_reducible refine hg_ne (by first | assumption | exact Ne.symm (by assumption) | exact ne_of_none (by assumption) (by assumption) | exact Ne.symm (ne_of_none (by assumption) (by assumption))) ?_))); first | done | assumption | exact upd_same))) | exact .base (.tup (by ((repeat (first | with_reducible exact upd_same | (with_reducible refine hg_new (by assumption) ?_) | (with_reducible refine hg_ne (by first | assumption | exact Ne.symm (by assumption) | exact ne_of_none (by assumption) (by assumption) | exact Ne.symm (ne_of_none (by assumption) (by assumption))) ?_))); first | done | assumption | exact upd_same))) | exact .base (.dK (by ((repeat (first | with_reducible exact upd_same | (with_reducible refine hg_new (by assumption) ?_) | (with_reducible refine hg_ne (by first | assumption | exact Ne.symm (by assumption) | exact ne_of_none (by assumption) (by assumption) | exact Ne.symm (ne_of_none (by assumption) (by assumption))) ?_))); first | done | assumption | exact upd_same))))); (focus decide +kernel)) | ((with_reducible apply w_isi (r := false)); (focus (first | exact .base (.int _) | exact .base .non | exact .base (.bl _) | exact .base (.str _) | exact .base (.lst (by ((repeat (first | with_reducible exact upd_same | (with_reducible refine hg_new (by assumption) ?_) | (with_reducible refine hg_ne (by first | assumption | exact Ne.symm (by assumption) | exact ne_of_none (by assumption) (by assumption) | exact Ne.symm (ne_of_none (by assumption) (by assumption))) ?_))); first | done | assumption | exact upd_same))) | exact .base (.tup (by ((repeat (first | with_reducible exact upd_same | (with_reducible refine hg_new (by assumption) ?_) | (with_reducible refine hg_ne (by first | assumption | exact Ne.symm (by assumption) | exact ne_of_none (by assumption) (by assumption) | exact Ne.symm (ne_of_none (by assumption) (by assumption))) ?_))); first | done | assumption | exact upd_same))) | exact .base (.dK (by ((repeat (first | with_reducible exact upd_same | (with_reducible refine hg_new (by assumption) ?_) | (with_reducible refine hg_ne (by first | assumption | exact Ne.symm (by assumption) | exact ne_of_none (by assumption) (by assumption) | exact Ne.symm (ne_of_none (by assumption) (by assumption))) ?_))); first | done | assumption | exact upd_same))))); (focus decide +kernel)) | ((with_reducible apply w_slL); (focus ((repeat (first | with_reducible exact upd_same | (with_reducible refine hg_new (by assumption) ?_) | (with_reducible refine hg_ne (by first | assumption | exact Ne.symm (by assumption) | exact ne_of_none (by assumption) (by assumption) | exact Ne.symm (ne_of_none (by assumption) (by assumption))) ?_))); first | done | assumption | exact upd_same))) | ((with_reducible apply w_itemGo); (focus ((repeat (first | with_reducible exact upd_same | (with_reducible refine hg_new (by assumption) ?_) | (with_reducible refine hg_ne (by first | assumption | exact Ne.symm (by assumption) | exact ne_of_none (by assumption) (by assumption) | exact Ne.symm (ne_of_none (by assumption) (by assumption))) ?_))); first | done | assumption | exact upd_same))) | ((with_reducible apply w_lenO); (focus ((repeat (first | with_reducible exact upd_same | (with_reducible refine hg_new (by assumption) ?_) | (with_reducible refine hg_ne (by first | assumption | exact Ne.symm (by assumption) | exact ne_of_none (by assumption) (by assumption) | exact Ne.symm (ne_of_none (by assumption) (by assumption))) ?_))); first | done | assumption | exact upd_same))) | ((with_reducible apply w_gtup); (focus ((repeat (first | with_reducible exact upd_same | (with_reducible refine hg_new (by assumption) ?_) | (with_reducible refine hg_ne (by first | assumption | exact Ne.symm (by assumption) | exact ne_of_none (by assumption) (by assumption) | exact Ne.symm (ne_of_none (by assumption) (by assumption))) ?_))); first | done | assumption | exact upd_same)); (focus rfl)) | ((with_reducible apply w_tyL); (focus ((repeat (first | with_reducible exact upd_same | (with_reducible refine hg_new (by assumption) ?_) | (with_reducible refine hg_ne (by first | assumption | exact Ne.symm (by assumption) | exact ne_of_none (by assumption) (by assumption) | exact Ne.symm (ne_of_none (by assumption) (by assumption))) ?_))); first | done | assumption | exact upd_same))) | ((with_reducible apply w_pop0); (focus ((repeat (first | with_reducible exact upd_same | (with_reducible refine hg_new (by assumption) ?_) | (with_reducible refine hg_ne (by first | assumption | exact Ne.symm (by assumption) | exact ne_of_none (by assumption) (by assumption) | exact Ne.symm (ne_of_none (by assumption) (by assumption))) ?_))); first | done | assumption | exact upd_same))) | ((with_reducible apply w_I); (focus first | (show CMul _ _; first | exact .inl ⟨by omega, by omega⟩ | exact .inr ⟨by omega, by omega⟩) | (show CPow _ _; exact ⟨by omega, by omega, by omega⟩) | (show CDivN _ _; exact ⟨by omega, by omega⟩) | omega)))))
local macro_rules | `(tactic| right) => `(tactic| (repeat (first | with_reducible refine w_seq ?_ | with_reducible refine w_next ?_ | with_reducible refine w_asg ?_ | with_reducible refine w_drop ?_ | with_reducible refine w_ret ?_ | with_reducible refine w_if ?_ | with_reducible refine w_name ?_ | with_reducible refine w_sub ?_ | with_reducible refine w_c ?_ | with_reducible refine w_op ?_ | with_reducible refine w_un ?_ | with_reducible refine w_U ?_ | with_reducible refine w_I0 ?_ | with_reducible refine w_test ?_ | with_reducible refine w_B ?_ | with_reducible refine w_bl ?_ | with_reducible refine w_not ?_ | with_reducible refine w_and ?_ | with_reducible refine w_or ?_ | with_reducible refine w_ifE ?_ | with_reducible refine w_andV ?_ | with_reducible refine w_orV ?_ | with_reducible refine w_notV ?_ | with_reducible refine w_chain ?_ | with_reducible refine w_nil ?_ | with_reducible refine w_cons ?_ | with_reducible refine w_lst ?_ | with_reducible refine w_tup ?_ | with_reducible refine w_cb ?_ | with_reducible refine w_bm ?_ | with_reducible refine w_call ?_ | with_reducible refine w_int1 ?_ | with_reducible refine w_max ?_ | with_reducible refine w_min ?_ | with_reducible refine w_lc ?_ | with_reducible refine w_for ?_ | with_reducible refine w_rng1 ?_ | with_reducible refine w_listI ?_ | with_reducible refine w_tupI ?_ | with_reducible refine w_zipI ?_ | with_reducible refine w_yes ?_ | with_reducible refine w_turn ?_ | with_reducible refine iteT ?_ | with_reducible refine iteF ?_ | with_reducible refine w_gcons ?_ | with_reducible refine w_gnil ?_ | with_reducible refine w_fld ?_ | with_reducible refine w_sfld ?_ | with_reducible refine w_make ?_ | with_reducible refine w_meth ?_ | with_reducible refine w_gsl ?_ | with_reducible refine w_err ?_ | with_reducible refine w_sl ?_ | with_reducible refine w_part ?_ | with_reducible refine w_nopart ?_ | with_reducible refine w_partGo ?_ | with_reducible refine w_methW ?_ | with_reducible refine w_xf ?_ | with_reducible refine w_isB ?_ | with_reducible refine w_iteSame ?_ | with_reducible refine w_iteNSame ?_ | with_reducible refine w_iteNT ?_ | with_reducible refine w_iteNF ?_ | with_reducible refine w_ipI ?_ | with_reducible refine w_isN ?_ | with_reducible refine w_notN ?_ | with_reducible refine w_iteIntNon ?_ | with_reducible refine w_iteNIntNon ?_ | with_reducible refine w_iteNonInt ?_ | with_reducible refine w_par ?_ | with_reducible refine w_par3 ?_ | with_reducible refine w_parGo ?_ | with_reducible refine w_parGo3 ?_ | with_reducible refine w_makeW ?_ | with_reducible refine w_callS ?_ | with_reducible refine w_prop ?_ | with_reducible refine w_item ?_ | with_reducible refine w_gitem ?_ | ((with_reducible apply w_var); (focus rfl)) | ((with_reducible apply w_aug); (focus rfl)) | ((with_reducible refine w_iteStrNe ?_ ?_); (focus decide +kernel)) | ((with_reducible refine w_iteNStrNe ?_ ?_); (focus decide +kernel)) | ((with_reducible refine w_eq ?_ ?_); (focus rfl)) | ((with_reducible refine w_ne ?_ ?_); (focus rfl)) | ((with_reducible apply w_ixL); (focus ((repeat (first | with_reducible exact upd_same | (with_reducible refine hg_new (by assumption) ?_) | (with_reducible refine hg_ne (by first | assumption | exact Ne.symm (by assumption) | exact ne_of_none (by assumption) (by assumption) | exact Ne.symm (ne_of_none (by assumption) (by assumption))) ?_))); first | done | assumption | exact upd_same)); (focus rfl)) | ((with_reducible apply w_ixT); (focus ((repeat (first | with_reducible exact upd_same | (with_reducible refine hg_new (by assumption) ?_) | (with_reducible refine hg_ne (by first | assumption | exact Ne.symm (by assumption) | exact ne_of_none (by assumption) (by assumption) | exact Ne.symm (ne_of_none (by assumption) (by assumption))) ?_))); first | done | assumption | exact upd_same)); (focus rfl)) | ((with_reducible apply w_setL); (focus ((repeat (first | with_reducible exact upd_same | (with_reducible refine hg_new (by assumption) ?_) | (with_reducible refine hg_ne (by first | assumption | exact Ne.symm (by assumption) | exact ne_of_none (by assumption) (by assumption) | exact Ne.symm (ne_of_none (by assumption) (by assumption))) ?_))); first | done | assumption | exact upd_same)); (focus rfl)) | ((with_reducible apply w_len); (focus ((repeat (first | with_reducible exact upd_same | (with_reducible refine hg_new (by assumption) ?_) | (with_reducible refine hg_ne (by first | assumption | exact Ne.symm (by assumption) | exact ne_of_none (by assumption) (by assumption) | exact Ne.symm (ne_of_none (by assumption) (by assumption))) ?_))); first | done | assumption | exact upd_same))) | ((with_reducible apply w_lenT); (focus ((repeat (first | with_reducible exact upd_same | (with_reducible refine hg_new (by assumption) ?_) | (with_reducible refine hg_ne (by first | assumption | exact Ne.symm (by assumption) | exact ne_of_none (by assumption) (by assumption) | exact Ne.symm (ne_of_none (by assumption) (by assumption))) ?_))); first | done | assumption | exact upd_same))) | ((with_reducible apply w_list); (focus ((repeat (first | with_reducible exact upd_same | (with_reducible refine hg_new (by assumption) ?_) | (with_reducible refine hg_ne (by first | assumption | exact Ne.symm (by assumption) | exact ne_of_none (by assumption) (by assumption) | exact Ne.symm (ne_of_none (by assumption) (by assumption))) ?_))); first | done | assumption | exact upd_same))) | ((with_reducible apply w_fldGo); (focus ((repeat (first | with_reducible exact upd_same | (with_reducible refine hg_new (by assumption) ?_) | (with_reducible refine hg_ne (by first | assumption | exact Ne.symm (by assumption) | exact ne_of_none (by assumption) (by assumption) | exact Ne.symm (ne_of_none (by assumption) (by assumption))) ?_))); first | done | assumption | exact upd_same)); (focus assumption); (focus assumption); (focus (first | exact lk_one | (focus (simp [List.lookup]; done)) | rfl))) | ((with_reducible apply w_sfldGo); (focus ((repeat (first | with_reducible exact upd_same | (with_reducible refine hg_new (by assumption) ?_) | (with_reducible refine hg_ne (by first | assumption | exact Ne.symm (by assumption) | exact ne_of_none (by assumption) (by assumption) | exact Ne.symm (ne_of_none (by assumption) (by assumption))) ?_))); first | done | assumption | exact upd_same)); (focus assumption); (focus assumption); (focus decide)) | ((with_reducible apply w_methGo); (focus ((repeat (first | with_reducible exact upd_same | (with_reducible refine hg_new (by assumption) ?_) | (with_reducible refine hg_ne (by first | assumption | exact Ne.symm (by assumption) | exact ne_of_none (by assumption) (by assumption) | exact Ne.symm (ne_of_none (by assumption) (by assumption))) ?_))); first | done | assumption | exact upd_same)); (focus first | exact lk_no (by decide +kernel) | rfl | (simp [List.lookup]; done))) | ((with_reducible apply w_xfGo); (focus ((repeat (first | with_reducible exact upd_same | (with_reducible refine hg_new (by assumption) ?_) | (with_reducible refine hg_ne (by first | assumption | exact Ne.symm (by assumption) | exact ne_of_none (by assumption) (by assumption) | exact Ne.symm (ne_of_none (by assumption) (by assumption))) ?_))); first | done | assumption | exact upd_same)); (focus (first | exact lk_one | (focus (simp [List.lookup]; done)) | rfl))) | ((with_reducible apply w_isi (r := true)); (focus (first | exact .base (.int _) | exact .base .non | exact .base (.bl _) | exact .base (.str _) | exact .base (.lst (by ((repeat (first | with_reducible exact upd_same | (with_reducible refine hg_new (by assumption) ?_) | (with_reducible refine hg_ne (by first | assumption | exact Ne.symm (by assumption) | exact ne_of_none (by assumption) (by assumption) | exact Ne.symm (ne_of_none (by assumption) (by assumption))) ?_))); first | done | assumption | exact upd_same))) | exact .base (.tup (by ((repeat (first | with_reducible exact upd_same | (with_reducible refine hg_new (by assumption) ?_) | (with_reducible refine hg_ne (by first | assumption | exact Ne.symm (by assumption) | exact ne_of_none (by assumption) (by assumption) | exact Ne.symm (ne_of_none (by assumption) (by assumption))) ?_))); first | done | assumption | exact upd_same))) | exact .base (.dK (by ((repeat (first | with_reducible exact upd_same | (with_reducible refine hg_new (by assumption) ?_) | (with_reducible refine hg_ne (by first | assumption | exact Ne.symm (by assumption) | exact ne_of_none (by assumption) (by assumption) | exact Ne.symm (ne_of_none (by assumption) (by assumption))) ?_))); first | done | assumption | exact upd_same))))); (focus decide +kernel)) | ((with_reducible apply w_isi (r := false)); (focus (first | exact .base (.int _) | exact .base .non | exact .base (.bl _) | exact .base (.str _) | exact .base (.lst (by ((repeat (first | with_reducible exact upd_same | (with_reducible refine hg_new (by assumption) ?_) | (with_reducible refine hg_ne (by first | assumption | exact Ne.symm (by assumption) | exact ne_of_none (by assumption) (by assumption) | exact Ne.symm (ne_of_none (by assumption) (by assumption))) ?_))); first | done | assumption | exact upd_same))) | exact .base (.tup (by ((repeat (first | with_reducible exact upd_same | (with_reducible refine hg_new (by assumption) ?_) | (with_reducible refine hg_ne (by first | assumption | exact Ne.symm (by assumption) | exact ne_of_none (by assumption) (by assumption) | exact Ne.symm (ne_of_none (by assumption) (by assumption))) ?_))); first | done | assumption | exact upd_same))) | exact .base (.dK (by ((repeat (first | with_reducible exact upd_same | (with_reducible refine hg_new (by assumption) ?_) | (with_reducible refine hg_ne (by first | assumption | exact Ne.symm (by assumption) | exact ne_of_none (by assumption) (by assumption) | exact Ne.symm (ne_of_none (by assumption) (by assumption))) ?_))); first | done | assumption | exact upd_same))))); (focus decide +kernel)) | ((with_reducible apply w_slL); (focus ((repeat (first | with_reducible exact upd_same | (with_reducible refine hg_new (by assumption) ?_) | (with_reducible refine hg_ne (by first | assumption | exact Ne.symm (by assumption) | exact ne_of_none (by assumption) (by assumption) | exact Ne.symm (ne_of_none (by assumption) (by assumption))) ?_))); first | done | assumption | exact upd_same))) | ((with_reducible apply w_itemGo); (focus ((repeat (first | with_reducible exact upd_same | (with_reducible refine hg_new (by assumption) ?_) | (with_reducible refine hg_ne (by first | assumption | exact Ne.symm (by assumption) | exact ne_of_none (by assumption) (by assumption) | exact Ne.symm (ne_of_none (by assumption) (by assumption))) ?_))); first | done | assumption | exact upd_same))) | ((with_reducible apply w_lenO); (focus ((repeat (first | with_reducible exact upd_same | (with_reducible refine hg_new (by assumption) ?_) | (with_reducible refine hg_ne (by first | assumption | exact Ne.symm (by assumption) | exact ne_of_none (by assumption) (by assumption) | exact Ne.symm (ne_of_none (by assumption) (by assumption))) ?_))); first | done | assumption | exact upd_same))) | ((with_reducible apply w_gtup); (focus ((repeat (first | with_reducible exact upd_same | (with_reducible refine hg_new (by assumption) ?_) | (with_reducible refine hg_ne (by first | assumption | exact Ne.symm (by assumption) | exact ne_of_none (by assumption) (by assumption) | exact Ne.symm (ne_of_none (by assumption) (by assumption))) ?_))); first | done | assumption | exact upd_same)); (focus rfl)) | ((with_reducible apply w_tyL); (focus ((repeat (first | with_reducible exact upd_same | (with_reducible refine hg_new (by assumption) ?_) | (with_reducible refine hg_ne (by first | assumption | exact Ne.symm (by assumption) | exact ne_of_none (by assumption) (by assumption) | exact Ne.symm (ne_of_none (by assumption) (by assumption))) ?_))); first | done | assumption | exact upd_same))) | ((with_reducible apply w_pop0); (focus ((repeat (first | with_reducible exact upd_same | (with_reducible refine hg_new (by assumption) ?_) | (with_reducible refine hg_ne (by first | assumption | exact Ne.symm (by assumption) | exact ne_of_none (by assumption) (by assumption) | exact Ne.symm (ne_of_none (by assumption) (by assumption))) ?_))); first | done | assumption | exact upd_same))) | ((with_reducible apply w_I); (focus first | (show CMul _ _; first | exact .inl ⟨by omega, by omega⟩ | exact .inr ⟨by omega, by omega⟩) | (show CPow _ _; exact ⟨by omega, by omega, by omega⟩) | (show CDivN _ _; exact ⟨by omega, by omega⟩) | omega)) | ((with_reducible refine w_lstGo ?_ ?_); (focus (show _ ≤ sizeLine; decide)); (intro _ _)) | ((with_reducible refine w_tupGo' ?_ ?_); (focus (show _ ≤ sizeLine; decide)); (intro _ _)) | ((with_reducible apply w_isiT ["list", "tuple"] (r := true)); (focus ((repeat (first | with_reducible exact upd_same | (with_reducible refine hg_new (by assumption) ?_) | (with_reducible refine hg_ne (by first | assumption | exact Ne.symm (by assumption) | exact ne_of_none (by assumption) (by assumption) | exact Ne.symm (ne_of_none (by assumption) (by assumption))) ?_))); first | done | assumption | exact upd_same)); (focus rfl); (focus (first | exact .base (.int _) | exact .base .non | exact .base (.bl _) | exact .base (.str _) | exact .base (.lst (by ((repeat (first | with_reducible exact upd_same | (with_reducible refine hg_new (by assumption) ?_) | (with_reducible refine hg_ne (by first | assumption | exact Ne.symm (by assumption) | exact ne_of_none (by assumption) (by assumption) | exact Ne.symm (ne_of_none (by assumption) (by assumption))) ?_))); first | done | assumption | exact upd_same))) | exact .base (.tup (by ((repeat (first | with_reducible exact upd_same | (with_reducible refine hg_new (by assumption) ?_) | (with_reducible refine hg_ne (by first | assumption | exact Ne.symm (by assumption) | exact ne_of_none (by assumption) (by assumption) | exact Ne.symm (ne_of_none (by assumption) (by assumption))) ?_))); first | done | assumption | exact upd_same))) | exact .base (.dK (by ((repeat (first | with_reducible exact upd_same | (with_reducible refine hg_new (by assumption) ?_) | (with_reducible refine hg_ne (by first | assumption | exact Ne.symm (by assumption) | exact ne_of_none (by assumption) (by assumption) | exact Ne.symm (ne_of_none (by assumption) (by assumption))) ?_))); first | done | assumption | exact upd_same))))); (focus decide +kernel)) | ((with_reducible apply w_isiT ["list", "tuple"] (r := false)); (focus ((repeat (first | with_reducible exact upd_same | (with_reducible refine hg_new (by assumption) ?_) | (with_reducible refine hg_ne (by first | assumption | exact Ne.symm (by assumption) | exact ne_of_none (by assumption) (by assumption) | exact Ne.symm (ne_of_none (by assumption) (by assumption))) ?_))); first | done | assumption | exact upd_same)); (focus rfl); (focus (first | exact .base (.int _) | exact .base .non | exact .base (.bl _) | exact .base (.str _) | exact .base (.lst (by ((repeat (first | with_reducible exact upd_same | (with_reducible refine hg_new (by assumption) ?_) | (with_reducible refine hg_ne (by first | assumption | exact Ne.symm (by assumption) | exact ne_of_none (by assumption) (by assumption) | exact Ne.symm (ne_of_none (by assumption) (by assumption))) ?_))); first | done | assumption | exact upd_same))) | exact .base (.tup (by ((repeat (first | with_reducible exact upd_same | (with_reducible refine hg_new (by assumption) ?_) | (with_reducible refine hg_ne (by first | assumption | exact Ne.symm (by assumption) | exact ne_of_none (by assumption) (by assumption) | exact Ne.symm (ne_of_none (by assumption) (by assumption))) ?_))); first | done | assumption | exact upd_same))) | exact .base (.dK (by ((repeat (first | with_reducible exact upd_same | (with_reducible refine hg_new (by assumption) ?_) | (with_reducible refine hg_ne (by first | assumption | exact Ne.symm (by assumption) | exact ne_of_none (by assumption) (by assumption) | exact Ne.symm (ne_of_none (by assumption) (by assumption))) ?_))); first | done | assumption | exact upd_same))))); (focus decide +kernel)) | ((with_reducible apply w_isiT ["bool", "int", "list", "tuple", "dict"] (r := true)); (focus ((repeat (first | with_reducible exact upd_same | (with_reducible refine hg_new (by assumption) ?_) | (with_reducible refine hg_ne (by first | assumption | exact Ne.symm (by assumption) | exact ne_of_none (by assumption) (by assumption) | exact Ne.symm (ne_of_none (by assumption) (by assumption))) ?_))); first | done | assumption | exact upd_same)); (focus rfl); (focus (first | exact .base (.int _) | exact .base .non | exact .base (.bl _) | exact .base (.str _) | exact .base (.lst (by ((repeat (first | with_reducible exact upd_same | (with_reducible refine hg_new (by assumption) ?_) | (with_reducible refine hg_ne (by first | assumption | exact Ne.symm (by assumption) | exact ne_of_none (by assumption) (by assumption) | exact Ne.symm (ne_of_none (by assumption) (by assumption))) ?_))); first | done | assumption | exact upd_same))) | exact .base (.tup (by ((repeat (first | with_reducible exact upd_same | (with_reducible refine hg_new (by assumption) ?_) | (with_reducible refine hg_ne (by first | assumption | exact Ne.symm (by assumption) | exact ne_of_none (by assumption) (by assumption) | exact Ne.symm (ne_of_none (by assumption) (by assumption))) ?_))); first | done | assumption | exact upd_same))) | exact .base (.dK (by ((repeat (first | with_reducible exact upd_same | (with_reducible refine hg_new (by assumption) ?_) | (with_reducible refine hg_ne (by first | assumption | exact Ne.symm (by assumption) | exact ne_of_none (by assumption) (by assumption) | exact Ne.symm (ne_of_none (by assumption) (by assumption))) ?_))); first | done | assumption | exact upd_same))))); (focus decide +kernel)) | ((with_reducible apply w_isiT ["bool", "int", "list", "tuple", "dict"] (r := false)); (focus ((repeat (first | with_reducible exact upd_same | (with_reducible refine hg_new (by assumption) ?_) | (with_reducible refine hg_ne (by first | assumption | exact Ne.symm (by assumption) | exact ne_of_none (by assumption) (by assumption) | exact Ne.symm (ne_of_none (by assumption) (by assumption))) ?_))); first | done | assumption | exact upd_same)); (focus rfl); (focus (first | exact .base (.int _) | exact .base .non | exact .base (.bl _) | exact .base (.str _) | exact .base (.lst (by ((repeat (first | with_reducible exact upd_same | (with_reducible refine hg_new (by assumption) ?_) | (with_reducible refine hg_ne (by first | assumption | exact Ne.symm (by assumption) | exact ne_of_none (by assumption) (by assumption) | exact Ne.symm (ne_of_none (by assumption) (by assumption))) ?_))); first | done | assumption | exact upd_same))) | exact .base (.tup (by ((repeat (first | with_reducible exact upd_same | (with_reducible refine hg_new (by assumption) ?_) | (with_reducible refine hg_ne (by first | assumption | exact Ne.symm (by assumption) | exact ne_of_none (by assumption) (by assumption) | exact Ne.symm (ne_of_none (by assumption) (by assumption))) ?_))); first | done | assumption | exact upd_same))) | exact .base (.dK (by ((repeat (first | with_reducible exact upd_same | (with_reducible refine hg_new (by assumption) ?_) | (with_reducible refine hg_ne (by first | assumption | exact Ne.symm (by assumption) | exact ne_of_none (by assumption) (by assumption) | exact Ne.symm (ne_of_none (by assumption) (by assumption))) ?_))); first | done | assumption | exact upd_same))))); (focus decide +kernel)))))
local macro_rules | `(tactic| and_intros) => `(tactic| ((repeat (first | with_reducible exact upd_same | (with_reducible refine hg_new (by assumption) ?_) | (with_reducible refine hg_ne (by first | assumption | exact Ne.symm (by assumption) | exact ne_of_none (by assumption) (by assumption) | exact Ne.symm (ne_of_none (by assumption) (by assumption))) ?_))); first | done | assumption | exact upd_same))
local macro_rules | `(tactic| ac_rfl) => `(tactic| (repeat (first | with_reducible exact Same.refl _ | (with_reducible refine Same.trans ?_ (Same.new (by assumption))))))

section
variable {P : Program} {w : World} {K : PySem.W.Frag} {mg : Str → Option Value} {base : Heap}
structure Txt (K : PySem.W.Frag) (mg : Str → Option Value) : Prop where
  z_int : mg "int" = none
  z_len : mg "len" = none
  z_isinstance : mg "isinstance" = none
  z_bool : mg "bool" = none
  z_list : mg "list" = none
  z_tuple : mg "tuple" = none
  z_dict : mg "dict" = none
  z_range : mg "range" = none
  z_zip : mg "zip" = none
  z_all : mg "all" = none
  z_repr : mg "repr" = none
theorem ok_draw {f : Addr} {fd : FuncData} (F : Fun K "_law_draw" "_law_draw" s__law_draw f fd) (T : Txt K mg) : FnOk P w K mg base CX0 1 f fd ["_law_stream", "_law_many"] spDraw := by
  refine F.ok sc__law_draw (fun vs H Q E h => ?_) (fun cdv A outer s H vs Q E hr h => ?_)
  · obtain ⟨_, _, _, _, rfl, _⟩ := h
    rfl
  · obtain ⟨st, ls, n, c0', rfl, ⟨hne, xs, x, c, m, h1, h2, x0, c00, c0n, m0, m1⟩, hn, hc, hc2, k⟩ := h
    refine ⟨_, (pss_cons (ps_while PassesOwn.never (pt_up (PW.pt (pw_and (pt_cmpR op_eq (pe_ix (ixL_k (K := K) rfl) (pv 0) pe_int (fun _ _ => rfl)) pe_int (nomark _)) (pw_and1 (pt_cmpR (neD_k (K := K) hr.units rfl) (pe_ix (ixL_k (K := K) rfl) (pv 0) pe_int (fun _ _ => rfl)) (pe_lst pa_nil) (nomark _)))))) (pss_cons (ps_asg (pe_bm PySem.F.plainAttrs_list PySem.F.slot_list_pop PySem.F.type_list_pop mt_popAt (pe_ix (ixL_k (K := K) rfl) (pv 0) pe_int (fun _ _ => rfl)) (pa_cons pe_int pa_nil)) (pg_sub (pv 0) pe_int set_list))
      (pss_one (ps_if (pt_cmpR op_lt (pe_ix (ixL_k (K := K) rfl) (pv 0) pe_int (fun _ _ => rfl)) (pe_op op_pow pe_int pe_int) (nomark _)) (pss_cons (ps_asg (pe_op op_modN (pe_callTy cq_int (by rfl) T.z_int (by decide +kernel) (pa_cons (pe_op op_add (pe_op op_add (pe_op op_mul (pe_ix (ixL_k (K := K) rfl) (pv 0) pe_int (fun _ _ => rfl)) pe_int) (pe_ix (ixL_k (K := K) rfl) (pv 0) pe_int (fun _ _ => rfl))) pe_int) pa_nil)) pe_int) (pg_sub (pv 0) pe_int set_list))
      (pss_one (ps_asg pe_int (pg_sub (pv 0) pe_int set_list)))) pss_nil))))
      (pss_cons (ps_if (pt_cmpR op_gt (pe_ix (ixL_k (K := K) rfl) (pv 0) pe_int (fun _ _ => rfl)) pe_int (nomark _)) (pss_cons (ps_set (i := 2) sc__law_draw.nd rfl (Or.inl rfl) (pe_op op_modN (pe_callTy cq_int (by rfl) T.z_int (by decide +kernel) (pa_cons (pe_ix (ixL_k (K := K) rfl) (pv 0) pe_int (fun _ _ => rfl)) pa_nil)) (pv 1)))
      (pss_cons (ps_asg (pe_op op_fdivN (pe_ix (ixL_k (K := K) rfl) (pv 0) pe_int (fun _ _ => rfl)) (pv 1)) (pg_sub (pv 0) pe_int set_list))
      (pss_one (ps_ret (pv 2))))) pss_nil)
      (pss_cons (ps_asg (pe_op op_add (pe_ix (ixL_k (K := K) rfl) (pv 0) pe_int (fun _ _ => rfl)) pe_int) (pg_sub (pv 0) pe_int set_list))
      (pss_cons (ps_set (i := 3) sc__law_draw.nd rfl (Or.inl rfl) (pe_op op_modN (pe_callTy cq_int (by rfl) T.z_int (by decide +kernel) (pa_cons (pe_op op_pow (pe_op op_add (pe_op op_add (pe_ix (ixL_k (K := K) rfl) (pv 0) pe_int (fun _ _ => rfl)) (pe_op op_mul pe_int (pe_ix (ixL_k (K := K) rfl) (pv 0) pe_int (fun _ _ => rfl)))) pe_int) pe_int) pa_nil)) pe_int))
      (pss_cons (ps_set (i := 4) sc__law_draw.nd rfl (Or.inl rfl) (pe_op op_modN (pe_callTy cq_int (by rfl) T.z_int (by decide +kernel) (pa_cons (pe_op op_pow (pe_op op_add (pe_op op_add (pe_op op_mul (pv 3) pe_int) (pe_op op_mul (pe_op op_mul pe_int (pe_ix (ixL_k (K := K) rfl) (pv 0) pe_int (fun _ _ => rfl))) (pe_ix (ixL_k (K := K) rfl) (pv 0) pe_int (fun _ _ => rfl)))) pe_int) pe_int) pa_nil)) pe_int))
      (pss_one (ps_ret (pe_op op_modN (pe_callTy cq_int (by rfl) T.z_int (by decide +kernel) (pa_cons (pv 4) pa_nil)) (pv 1))))))))), ?_⟩
    refine w_seq (w_while (fun k σ H' => ∃ (xs : List Int) (x c m : Int), k = xs.length ∧ σ = [some (.ref st), some (.int c0'), none, none, none] ∧ H' st = some (.lst [.ref ls, .int x, .int c, .int m]) ∧ H' ls = some (.lst (xs.map V.int)) ∧ 0 ≤ x ∧ 0 ≤ c ∧ c ≤ (n : Int) ∧ 0 ≤ m ∧ m < 2147483647 ∧ Fr st ls H H')
      (fun σ H' => ∃ (xs : List Int) (x c m : Int), σ = [some (.ref st), some (.int c0'), none, none, none] ∧ H' st = some (.lst [.ref ls, .int x, .int c, .int m]) ∧ H' ls = some (.lst (xs.map V.int)) ∧ 0 ≤ x ∧ 0 ≤ c ∧ c ≤ (n : Int) ∧ 0 ≤ m ∧ m < 2147483647 ∧ Fr st ls H H')
      xs.length ⟨xs, x, c, m, rfl, rfl, h1, h2, x0, c00, c0n, m0, m1, Fr.refl _ _ _⟩ ?_ ?_)
    · clear h1 h2 x0 c00 c0n m0 m1 xs x c m
      rintro σ H1 ⟨xs, x, c, m, rfl, h1, h2, x0, c00, c0n, m0, m1, fr⟩
      left
      refine w_ite (fun hx => ?_) (fun hx => ?_)
      · left
        have e1 : x.fmod c0' = x % c0' := Int.fmod_eq_emod_of_nonneg _ (by omega)
        have e2 : x.fdiv c0' = x / c0' := Int.fdiv_eq_ediv_of_nonneg _ (by omega)
        refine k _ _ (by rw [e1]; exact Int.emod_nonneg _ (by omega)) (by rw [e1]; exact Int.emod_lt_of_pos _ hc) ⟨hne, xs, _, c, m, upd_same, hg_ne (Ne.symm hne) h2, ?_, c00, by omega, m0, m1⟩ (fr.trans Fr.st)
        rw [e2]; exact Int.ediv_nonneg x0 (by omega)
      · left
        have hb0 : 0 ≤ (c + 1) * (c + 1) := Int.mul_nonneg (by omega) (by omega)
        have hb1 : (c + 1) * (c + 1) ≤ 1000000 * 1000000 := Int.mul_le_mul (by omega) (by omega) (by omega) (by omega)
        have hb2 : 40503 * (c + 1) * (c + 1) = 40503 * ((c + 1) * (c + 1)) := Int.mul_assoc _ _ _
        have hm0 := Int.fmod_nonneg_of_pos ((m + 104729 * (c + 1) + 17) ^ Int.toNat 5) (b := 2147483629) (by omega)
        have hm1 := Int.fmod_lt_of_pos ((m + 104729 * (c + 1) + 17) ^ Int.toNat 5) (b := 2147483629) (by omega)
        rw [hb2]
        generalize (c + 1) * (c + 1) = cc at hb0 hb1
        generalize ((m + 104729 * (c + 1) + 17) ^ Int.toNat 5).fmod 2147483629 = mx at hm0 hm1
        left
        refine k _ _ (Int.fmod_nonneg_of_pos _ hc) (Int.fmod_lt_of_pos _ hc) ⟨hne, xs, x, c + 1, m, upd_same, hg_ne (Ne.symm hne) h2, x0, by omega, by omega, m0, m1⟩ (fr.trans Fr.st)
    · clear h1 h2 x0 c00 c0n m0 m1 xs x c m
      rintro k' σ H1 ⟨xs, x, c, m, rfl, rfl, h1, h2, x0, c00, c0n, m0, m1, fr⟩
      left
      refine w_iteI (fun ex => ?_) (fun ex => ?_)
      · subst ex
        left
        refine ⟨by decide, fun p hp => ?_⟩
        have hps : st ≠ p := ne_of_none h1 hp
        have hpl : ls ≠ p := ne_of_none h2 hp
        have h1' : upd H1 p (.lst []) st = some (.lst [.ref ls, .int 0, .int c, .int m]) := hg_ne hps h1
        have h2' : upd H1 p (.lst []) ls = some (.lst (xs.map V.int)) := hg_ne hpl h2
        have fr' : Fr st ls H (upd H1 p (.lst [])) := fr.trans (Fr.new hp)
        refine ⟨_, _, .lst (SqL.of h2') (Dp.ints xs), .lst (SqL.of upd_same) .nil, shaped_ints xs, by rfl, ?_⟩
        generalize upd H1 p (.lst []) = H2 at h1' h2' fr'
        clear h1 h2 fr hp hps hpl
        cases xs with
        | nil =>
          left
          refine iteF ?_
          exact ⟨[], 0, c, m, rfl, h1', h2', x0, c00, c0n, m0, m1, fr'⟩
        | cons y r =>
          left
          refine iteT ?_
          left
          have g2 : Fr st ls H (upd H2 ls (.lst (r.map V.int))) := fr'.trans Fr.ls
          have g3 := g2.trans (Fr.st (st := st) (ls := ls) (o := .lst ([V.ref ls, V.int 0, V.int c, V.int m].set (Int.toNat 1) (V.int y))))
          refine w_ite (fun hy => ?_) (fun hy => ?_)
          · left
            exact ⟨r.length, Nat.lt_succ_self _, r, 0, c, _, rfl, rfl, upd_same, hg_ne (Ne.symm hne) (hg_ne (Ne.symm hne) (hg_ne (Ne.symm hne) upd_same)), by omega, c00, c0n, Int.fmod_nonneg_of_pos _ (by omega), Int.fmod_lt_of_pos _ (by omega), (g3.trans Fr.st).trans Fr.st⟩
          · left
            have hy0 : (10 : Int) ^ Int.toNat 18 = 1000000000000000000 := by decide
            exact ⟨r.length, Nat.lt_succ_self _, r, y, c, m, rfl, rfl, upd_same, hg_ne (Ne.symm hne) upd_same, by omega, c00, c0n, m0, m1, g3⟩
      · left
        exact ⟨xs, x, c, m, rfl, h1, h2, x0, c00, c0n, m0, m1, fr⟩
theorem ok_pick {f : Addr} {fd : FuncData} (F : Fun K "_law_pick" "_law_pick" s__law_pick f fd) (T : Txt K mg) (D__law_draw : CallOk P w K mg base "_law_draw" 1 spDraw) : FnOk P w K mg base CX0 3 f fd P__law_pick spPick := by
  refine F.ok sc__law_pick (fun vs H Q E h => ?_) (fun cdv A outer s H vs Q E hr h => ?_)
  · obtain ⟨_, _, _, _, _, rfl, _⟩ := h
    rfl
  · obtain ⟨st, ls, n, l, xs, rfl, hs, hn, hl, l1, l2, x0, x1, k⟩ := h
    refine ⟨_, (pss_one (ps_ret (pe_ix (ixL_k (K := K) rfl) (pv 1) (pe_callD D__law_draw (hr.mono (by decide)) (by rfl) (pa_cons (pv 0) (pa_cons (pe_callB (len_k (K := K) rfl) (by rfl) T.z_len PySem.boot_len (pa_cons (pv 1) pa_nil)) pa_nil))) (fun _ _ => rfl)))), ?_⟩
    left
    refine ⟨st, ls, n, _, rfl, hs, hn, by omega, by omega, fun v H' v0 v1 hs' fr => ?_⟩
    obtain ⟨y, ey, my⟩ := atI_of v0 v1
    exact ⟨l, xs, v, y, rfl, rfl, SqL.of (fr l _ l1 l2 hl), ey, k y H' my hs' fr⟩
/-- many octets -/
def spOcts : Sp := fun vs H Q _ => ∃ (st ls : Addr) (n m : Nat), vs = [.ref st, .int m] ∧ StrAt H st ls n ∧ n + 2 * m < 1000000 ∧ m < 1000 ∧
  ∀ (l : Addr) (xs : List Int) (H' : Hp), (∀ x ∈ xs, 0 ≤ x ∧ x < 256) → xs.length = m → StrAt H' st ls (n + 2 * m) → Fr st ls H H' → H l = none → H' l = some (.lst (xs.map V.int)) → Q (.ref l) H'
theorem ok_octs {f : Addr} {fd : FuncData} (F : Fun K "_law_some_octets" "_law_some_octets" s__law_some_octets f fd) (T : Txt K mg) (D__law_draw : CallOk P w K mg base "_law_draw" 1 spDraw) (D__law_pick : CallOk P w K mg base "_law_pick" 3 spPick) : FnOk P w K mg base CX0 5 f fd P__law_some_octets spOcts := by
  refine F.ok sc__law_some_octets (fun vs H Q E h => ?_) (fun cdv A outer s H vs Q E hr h => ?_)
  · obtain ⟨_, _, _, _, rfl, _⟩ := h
    rfl
  · obtain ⟨st, ls, n, m, rfl, hs, hn, hm, k⟩ := h
    refine ⟨_, (pss_one (ps_ret (pe_lc (own := [("_law_k", 2)]) rfl sc__law_some_octets.nd (pi_range1 (by rfl) T.z_range (pa_cons (pv 1) pa_nil)) (blkOk_by (N := N__law_some_octets) (sc := defScope s__law_some_octets) (by decide +kernel)) (fun _ _ _ _ _ => (pg_name (i := 2) sc__law_some_octets.nd rfl (Or.inl rfl))) (fun _ _ _ _ _ => pts_nil) (fun _ _ _ _ _ => (pe_callD D__law_pick (hr.mono (by decide)) (by rfl) (pa_cons (pv 0) (pa_cons (pe_lst (pa_cons pe_int (pa_cons pe_int (pa_cons pe_int (pa_cons pe_int (pa_cons pe_int (pa_cons (pe_callD D__law_draw (hr.mono (by decide)) (by rfl) (pa_cons (pv 0) (pa_cons pe_int pa_nil))) pa_nil))))))) pa_nil))))))), ?_⟩
    left
    refine w_rngGo (by omega) (w_lcR (fun D i H1 => ∃ xs : List Int, (∀ x ∈ xs, 0 ≤ x ∧ x < 256) ∧ xs.length = i ∧ StrAt H1 st ls (n + 2 * i) ∧ Fr st ls H H1 ∧ H1 D = some (.lst (xs.map V.int))) ?_ ?_ ?_)
    · intro D hD
      exact ⟨[], by simp, rfl, hs.new hD, Fr.new hD, upd_same⟩
    · rintro D i H1 hD hi ⟨xs, hx, hl, hs1, fr, e⟩
      left
      refine ⟨rfl, ?_⟩
      left
      refine ⟨st, ls, _, _, rfl, hs1, by omega, by omega, by omega, fun v H2 v0 v1 hs2 fr2 => ?_⟩
      left
      refine ⟨by show 6 ≤ sizeLine; decide, fun p hp => ?_⟩
      obtain ⟨p1, p2⟩ := hs2.nest hp
      obtain ⟨D1, D2⟩ := hs.nest hD
      have hDp : D ≠ p := ne_of_none (fr2 D _ D1 D2 e) hp
      left
      refine ⟨st, ls, _, _, _, rfl, hs2.new hp, by omega, upd_same, p1, p2, by show 0 < 6; decide, by show 6 < 1000000; decide, fun y H3 hy hs3 fr3 => ?_⟩
      have e3 : H3 D = some (.lst (xs.map V.int)) := fr3 D _ D1 D2 (hg_ne hDp (fr2 D _ D1 D2 e))
      obtain ⟨z, rfl, hz⟩ : ∃ z : Int, y = .int z ∧ 0 ≤ z ∧ z < 256 := by
        simp only [List.mem_cons, List.not_mem_nil, or_false] at hy
        rcases hy with rfl | rfl | rfl | rfl | rfl | rfl
        all_goals exact ⟨_, rfl, by omega, by omega⟩
      refine ⟨_, e3, by rw [List.length_map, hl]; exact Nat.lt_of_lt_of_le (Nat.lt_trans hi hm) (by decide), xs ++ [z], ?_, by rw [List.length_append, hl]; rfl, ?_, ?_, by rw [List.map_append]; exact upd_same⟩
      · intro x hx'
        rcases List.mem_append.mp hx' with h | h
        · exact hx x h
        · rw [List.mem_singleton.mp h]; exact hz
      · obtain ⟨hne, xs', x', c', m', h1, h2, r⟩ := hs3
        exact StrAt.up ⟨hne, xs', x', c', m', hg_ne (Ne.symm D1) h1, hg_ne (Ne.symm D2) h2, r⟩ (by omega)
      · intro b o b1 b2 hb
        have hbD : b ≠ D := ne_of_none hb hD
        rw [upd_ne hbD]
        refine fr3 b o b1 b2 ?_
        have hb2 := fr2 b o b1 b2 (fr b o b1 b2 hb)
        rw [upd_ne (ne_of_none hb2 hp)]; exact hb2
    · rintro D H1 hD ⟨xs, hx, hl, hs1, fr, e⟩
      exact k D xs H1 hx hl hs1 fr hD e
theorem ok_same {f : Addr} {fd : FuncData} (n : Nat) (F : Fun K "_law_same" "_law_same" s__law_same f fd) (T : Txt K mg) (D__law_same : CallOk P w K mg base "_law_same" n (spSame n)) : FnOk P w K mg base CX0 (n + 1) f fd P__law_same (spSame (n + 1)) := by
  refine F.ok sc__law_same (fun vs H Q E h => ?_) (fun cdv A outer s H vs Q E hr h => ?_)
  · obtain ⟨_, _, rfl, _⟩ := h
    rfl
  · obtain ⟨x, y, rfl, R, k⟩ := h
    refine ⟨_, (pss_cons (ps_if (pt_val (pe_callB (isi_k (K := K) rfl) (by rfl) T.z_isinstance (by decide +kernel) (pa_cons (pv 1) (pa_cons (pe_bltn (v := .ty "dict") (by rfl) T.z_dict (by decide +kernel) rfl) pa_nil)))) (pss_one ps_never) pss_nil)
      (pss_cons (ps_if (pt_val (pe_callB (isiT_k (K := K) rfl) (by rfl) T.z_isinstance (by decide +kernel) (pa_cons (pv 1) (pa_cons (pe_tup (pa_cons (pe_bltn (v := .ty "list") (by rfl) T.z_list (by decide +kernel) rfl) (pa_cons (pe_bltn (v := .ty "tuple") (by rfl) T.z_tuple (by decide +kernel) rfl) pa_nil))) pa_nil)))) (pss_cons (ps_if (PW.pt (pw_or (pt_cmpR op_ne (pe_callB (isi_k (K := K) rfl) (by rfl) T.z_isinstance (by decide +kernel) (pa_cons (pv 0) (pa_cons (pe_bltn (v := .ty "list") (by rfl) T.z_list (by decide +kernel) rfl) pa_nil))) (pe_callB (isi_k (K := K) rfl) (by rfl) T.z_isinstance (by decide +kernel) (pa_cons (pv 1) (pa_cons (pe_bltn (v := .ty "list") (by rfl) T.z_list (by decide +kernel) rfl) pa_nil))) (nomark _)) (pw_or1 (pt_cmpR op_ne (pe_callB (isi_k (K := K) rfl) (by rfl) T.z_isinstance (by decide +kernel) (pa_cons (pv 0) (pa_cons (pe_bltn (v := .ty "tuple") (by rfl) T.z_tuple (by decide +kernel) rfl) pa_nil))) (pe_callB (isi_k (K := K) rfl) (by rfl) T.z_isinstance (by decide +kernel) (pa_cons (pv 1) (pa_cons (pe_bltn (v := .ty "tuple") (by rfl) T.z_tuple (by decide +kernel) rfl) pa_nil))) (nomark _))))) (pss_one (ps_ret pe_bl)) pss_nil)
      (pss_one (ps_ret (pe_and (pe_cmpR op_eq (pe_callB (len_k (K := K) rfl) (by rfl) T.z_len PySem.boot_len (pa_cons (pv 0) pa_nil)) (pe_callB (len_k (K := K) rfl) (by rfl) T.z_len PySem.boot_len (pa_cons (pv 1) pa_nil)) (nomark _)) (pe_one (pe_callB (all_k (K := K) rfl rfl) (by rfl) T.z_all (by decide +kernel) (pa_cons (pe_lc (own := [("_law_one", 2), ("_law_two", 3)]) rfl sc__law_same.nd (pi_zipA (by rfl) T.z_zip (pa_cons (pv 0) (pa_cons (pv 1) pa_nil))) (blkOk_by (N := N__law_same) (sc := defScope s__law_same) (by decide +kernel)) (fun _ _ _ _ _ => (gtup_k (K := K) (n := 2) rfl rfl (pgs_cons (pg_name (i := 2) sc__law_same.nd rfl (Or.inl rfl)) (pgs_cons (pg_name (i := 3) sc__law_same.nd rfl (Or.inl rfl)) pgs_nil)))) (fun _ _ _ _ _ => pts_nil) (fun _ _ _ _ _ => (pe_callD D__law_same hr (by rfl) (pa_cons (pv 2) (pa_cons (pv 3) pa_nil))))) pa_nil))))))) pss_nil)
      (pss_cons (ps_if (pt_val (pe_callB (isi_k (K := K) rfl) (by rfl) T.z_isinstance (by decide +kernel) (pa_cons (pv 1) (pa_cons (pe_bltn (v := .ty "int") (by rfl) T.z_int (by decide +kernel) rfl) pa_nil)))) (pss_one (ps_ret (pe_and (pe_callB (isi_k (K := K) rfl) (by rfl) T.z_isinstance (by decide +kernel) (pa_cons (pv 0) (pa_cons (pe_bltn (v := .ty "int") (by rfl) T.z_int (by decide +kernel) rfl) pa_nil))) (pe_and (pe_cmpR op_eq (pe_callB (isi_k (K := K) rfl) (by rfl) T.z_isinstance (by decide +kernel) (pa_cons (pv 0) (pa_cons (pe_bltn (v := .ty "bool") (by rfl) T.z_bool (by decide +kernel) rfl) pa_nil))) (pe_callB (isi_k (K := K) rfl) (by rfl) T.z_isinstance (by decide +kernel) (pa_cons (pv 1) (pa_cons (pe_bltn (v := .ty "bool") (by rfl) T.z_bool (by decide +kernel) rfl) pa_nil))) (nomark _)) (pe_one (pe_cmpR op_eq (pv 0) (pv 1) (nomark _))))))) pss_nil)
      (pss_one (ps_ret (pe_and (pe_cmpR op_isBl (pe_callB (isiT_k (K := K) rfl) (by rfl) T.z_isinstance (by decide +kernel) (pa_cons (pv 0) (pa_cons (pe_tup (pa_cons (pe_bltn (v := .ty "bool") (by rfl) T.z_bool (by decide +kernel) rfl) (pa_cons (pe_bltn (v := .ty "int") (by rfl) T.z_int (by decide +kernel) rfl) (pa_cons (pe_bltn (v := .ty "list") (by rfl) T.z_list (by decide +kernel) rfl) (pa_cons (pe_bltn (v := .ty "tuple") (by rfl) T.z_tuple (by decide +kernel) rfl) (pa_cons (pe_bltn (v := .ty "dict") (by rfl) T.z_dict (by decide +kernel) rfl) pa_nil)))))) pa_nil))) pe_bl (nomark _)) (pe_one (pe_cmpR op_eq (pv 0) (pv 1) (nomark _))))))))), ?_⟩
    cases R with
    | non =>
      right
      rw [decSame]
      exact k _ (by ac_rfl)
    | int i =>
      right
      rw [decSame]
      exact k _ (by ac_rfl)
    | bl b =>
      right
      rw [decSame]
      exact k _ (by ac_rfl)
    | str z =>
      right
      rw [decSame]
      exact k _ (by ac_rfl)
    | @lst m a b xs ys h1 h2 hl hz kk =>
      right
      rw [hl]
      refine w_iteSame ?_
      right
      refine w_zipGo (by and_intros) (by and_intros) (w_lcZ hl (fun D i H1 => Same H H1 ∧ H1 D = some (.lst ((List.replicate i true).map V.bl)) ∧ i ≤ xs.length) ?_ ?_ ?_ ?_)
      · intro D hD
        exact ⟨by ac_rfl, upd_same, Nat.zero_le _⟩
      · rintro D i H1 hD ⟨sm, _⟩
        exact ⟨sm _ _ h1, sm _ _ h2⟩
      · rintro D i u v T H1 hD hu hv ⟨sm, e, hi⟩ hT
        have hDT : D ≠ T := ne_of_none e hT
        left
        refine ⟨rfl, ?_⟩
        left
        have smT : Same H (upd H1 T (.tup [u, v])) := sm.trans (Same.new hT)
        refine ⟨u, v, rfl, (kk i u v hu hv).same smT, fun H2 sm2 => ?_⟩
        have hix : i < xs.length := (List.getElem?_eq_some_iff.mp hu).1
        have hDn : H D = none := by
          cases q : H D with
          | none => rfl
          | some o => exact absurd (Same.free (H := H) (by ac_rfl) hD) (by rw [q]; intro z; cases z)
        refine ⟨_, sm2 _ _ (hg_ne hDT e), ?_, fun q o hq => hg_ne (ne_of_none hq hDn) (sm2 _ _ (smT q o hq)), ?_, hix⟩
        · rw [List.length_map, List.length_replicate]
          exact Nat.lt_of_lt_of_le hix (Nat.le_trans hz (by decide))
        · rw [upd_same, List.replicate_succ', List.map_append]; rfl
      · rintro D H1 hD ⟨sm, e, _⟩
        left
        refine ⟨D, _, rfl, SqL.of e, ?_⟩
        have ea : (List.replicate xs.length true).all id = true := by simp
        rw [ea]
        exact k _ sm
    | @tup m a b xs ys h1 h2 hl hz kk =>
      right
      rw [hl]
      refine w_iteSame ?_
      right
      refine w_zipGoT (by and_intros) (by and_intros) (w_lcZT hl (fun D i H1 => Same H H1 ∧ H1 D = some (.lst ((List.replicate i true).map V.bl)) ∧ i ≤ xs.length) ?_ ?_ ?_ ?_)
      · intro D hD
        exact ⟨by ac_rfl, upd_same, Nat.zero_le _⟩
      · rintro D i H1 hD ⟨sm, _⟩
        exact ⟨sm _ _ h1, sm _ _ h2⟩
      · rintro D i u v T H1 hD hu hv ⟨sm, e, hi⟩ hT
        have hDT : D ≠ T := ne_of_none e hT
        left
        refine ⟨rfl, ?_⟩
        left
        have smT : Same H (upd H1 T (.tup [u, v])) := sm.trans (Same.new hT)
        refine ⟨u, v, rfl, (kk i u v hu hv).same smT, fun H2 sm2 => ?_⟩
        have hix : i < xs.length := (List.getElem?_eq_some_iff.mp hu).1
        have hDn : H D = none := by
          cases q : H D with
          | none => rfl
          | some o => exact absurd (Same.free (H := H) (by ac_rfl) hD) (by rw [q]; intro z; cases z)
        refine ⟨_, sm2 _ _ (hg_ne hDT e), ?_, fun q o hq => hg_ne (ne_of_none hq hDn) (sm2 _ _ (smT q o hq)), ?_, hix⟩
        · rw [List.length_map, List.length_replicate]
          exact Nat.lt_of_lt_of_le hix (Nat.le_trans hz (by decide))
        · rw [upd_same, List.replicate_succ', List.map_append]; rfl
      · rintro D H1 hD ⟨sm, e, _⟩
        left
        refine ⟨D, _, rfl, SqL.of e, ?_⟩
        have ea : (List.replicate xs.length true).all id = true := by simp
        rw [ea]
        exact k _ sm
theorem same_all (D : Def K mg "_law_same" s__law_same P__law_same) (T : Txt K mg) : ∀ n, CallOk P w K mg base "_law_same" n (spSame n)
  | 0 => D.call fun f fd F => ⟨fun _ _ _ _ h => h.elim, fun _ _ _ _ _ _ _ _ _ _ _ _ _ h => h.elim⟩
  | n + 1 => D.call fun f fd F => ok_same n F T (same_all D T n)
end

local macro_rules | `(tactic| left) => `(tactic| (repeat (first | with_reducible refine w_seq ?_ | with_reducible refine w_next ?_ | with_reducible refine w_asg ?_ | with_reducible refine w_drop ?_ | with_reducible refine w_ret ?_ | with_reducible refine w_if ?_ | with_reducible refine w_name ?_ | with_reducible refine w_sub ?_ | with_reducible refine w_c ?_ | with_reducible refine w_op ?_ | with_reducible refine w_un ?_ | with_reducible refine w_U ?_ | with_reducible refine w_I0 ?_ | with_reducible refine w_test ?_ | with_reducible refine w_B ?_ | with_reducible refine w_bl ?_ | with_reducible refine w_not ?_ | with_reducible refine w_and ?_ | with_reducible refine w_or ?_ | with_reducible refine w_ifE ?_ | with_reducible refine w_andV ?_ | with_reducible refine w_orV ?_ | with_reducible refine w_notV ?_ | with_reducible refine w_chain ?_ | with_reducible refine w_nil ?_ | with_reducible refine w_cons ?_ | with_reducible refine w_lst ?_ | with_reducible refine w_tup ?_ | with_reducible refine w_cb ?_ | with_reducible refine w_bm ?_ | with_reducible refine w_call ?_ | with_reducible refine w_int1 ?_ | with_reducible refine w_max ?_ | with_reducible refine w_min ?_ | with_reducible refine w_lc ?_ | with_reducible refine w_for ?_ | with_reducible refine w_rng1 ?_ | with_reducible refine w_listI ?_ | with_reducible refine w_tupI ?_ | with_reducible refine w_zipI ?_ | with_reducible refine w_yes ?_ | with_reducible refine w_turn ?_ | with_reducible refine iteT ?_ | with_reducible refine iteF ?_ | with_reducible refine w_gcons ?_ | with_reducible refine w_gnil ?_ | with_reducible refine w_fld ?_ | with_reducible refine w_sfld ?_ | with_reducible refine w_make ?_ | with_reducible refine w_meth ?_ | with_reducible refine w_gsl ?_ | with_reducible refine w_err ?_ | with_reducible refine w_sl ?_ | with_reducible refine w_part ?_ | with_reducible refine w_nopart ?_ | with_reducible refine w_partGo ?_ | with_reducible refine w_methW ?_ | with_reducible refine w_xf ?_ | with_reducible refine w_isB ?_ | with_reducible refine w_iteSame ?_ | with_reducible refine w_iteNSame ?_ | with_reducible refine w_iteNT ?_ | with_reducible refine w_iteNF ?_ | with_reducible refine w_ipI ?_ | with_reducible refine w_isN ?_ | with_reducible refine w_notN ?_ | with_reducible refine w_iteIntNon ?_ | with_reducible refine w_iteNIntNon ?_ | with_reducible refine w_iteNonInt ?_ | with_reducible refine w_par ?_ | with_reducible refine w_par3 ?_ | with_reducible refine w_parGo ?_ | with_reducible refine w_parGo3 ?_ | with_reducible refine w_makeW ?_ | with_reducible refine w_callS ?_ | with_reducible refine w_prop ?_ | with_reducible refine w_item ?_ | with_reducible refine w_gitem ?_ | ((with_reducible apply w_var); (focus rfl)) | ((with_reducible apply w_aug); (focus rfl)) | ((with_reducible refine w_iteStrNe ?_ ?_); (focus decide +kernel)) | ((with_reducible refine w_iteNStrNe ?_ ?_); (focus decide +kernel)) | ((with_reducible refine w_eq ?_ ?_); (focus rfl)) | ((with_reducible refine w_ne ?_ ?_); (focus rfl)) | ((with_reducible apply w_ixL); (focus ((repeat (first | with_reducible exact upd_same | (with_reducible refine hg_new (by assumption) ?_) | (with_reducible refine hg_ne (by first | assumption | exact Ne.symm (by assumption) | exact ne_of_none (by assumption) (by assumption) | exact Ne.symm (ne_of_none (by assumption) (by assumption))) ?_))); first | done | assumption | exact upd_same)); (focus rfl)) | ((with_reducible apply w_ixT); (focus ((repeat (first | with_reducible exact upd_same | (with_reducible refine hg_new (by assumption) ?_) | (with_reducible refine hg_ne (by first | assumption | exact Ne.symm (by assumption) | exact ne_of_none (by assumption) (by assumption) | exact Ne.symm (ne_of_none (by assumption) (by assumption))) ?_))); first | done | assumption | exact upd_same)); (focus rfl)) | ((with_reducible apply w_setL); (focus ((repeat (first | with_reducible exact upd_same | (with_reducible refine hg_new (by assumption) ?_) | (with_reducible refine hg_ne (by first | assumption | exact Ne.symm (by assumption) | exact ne_of_none (by assumption) (by assumption) | exact Ne.symm (ne_of_none (by assumption) (by assumption))) ?_))); first | done | assumption | exact upd_same)); (focus rfl)) | ((with_reducible apply w_len); (focus ((repeat (first | with_reducible exact upd_same | (with_reducible refine hg_new (by assumption) ?_) | (with_reducible refine hg_ne (by first | assumption | exact Ne.symm (by assumption) | exact ne_of_none (by assumption) (by assumption) | exact Ne.symm (ne_of_none (by assumption) (by assumption))) ?_))); first | done | assumption | exact upd_same))) | ((with_reducible apply w_lenT); (focus ((repeat (first | with_reducible exact upd_same | (with_reducible refine hg_new (by assumption) ?_) | (with_reducible refine hg_ne (by first | assumption | exact Ne.symm (by assumption) | exact ne_of_none (by assumption) (by assumption) | exact Ne.symm (ne_of_none (by assumption) (by assumption))) ?_))); first | done | assumption | exact upd_same))) | ((with_reducible apply w_list); (focus ((repeat (first | with_reducible exact upd_same | (with_reducible refine hg_new (by assumption) ?_) | (with_reducible refine hg_ne (by first | assumption | exact Ne.symm (by assumption) | exact ne_of_none (by assumption) (by assumption) | exact Ne.symm (ne_of_none (by assumption) (by assumption))) ?_))); first | done | assumption | exact upd_same))) | ((with_reducible apply w_fldGo); (focus ((repeat (first | with_reducible exact upd_same | (with_reducible refine hg_new (by assumption) ?_) | (with_reducible refine hg_ne (by first | assumption | exact Ne.symm (by assumption) | exact ne_of_none (by assumption) (by assumption) | exact Ne.symm (ne_of_none (by assumption) (by assumption))) ?_))); first | done | assumption | exact upd_same)); (focus assumption); (focus assumption); (focus (first | exact lk_one | (focus (simp [List.lookup]; done)) | rfl))) | ((with_reducible apply w_sfldGo); (focus ((repeat (first | with_reducible exact upd_same | (with_reducible refine hg_new (by assumption) ?_) | (with_reducible refine hg_ne (by first | assumption | exact Ne.symm (by assumption) | exact ne_of_none (by assumption) (by assumption) | exact Ne.symm (ne_of_none (by assumption) (by assumption))) ?_))); first | done | assumption | exact upd_same)); (focus assumption); (focus assumption); (focus decide)) | ((with_reducible apply w_methGo); (focus ((repeat (first | with_reducible exact upd_same | (with_reducible refine hg_new (by assumption) ?_) | (with_reducible refine hg_ne (by first | assumption | exact Ne.symm (by assumption) | exact ne_of_none (by assumption) (by assumption) | exact Ne.symm (ne_of_none (by assumption) (by assumption))) ?_))); first | done | assumption | exact upd_same)); (focus first | exact lk_no (by decide +kernel) | rfl | (simp [List.lookup]; done))) | ((with_reducible apply w_xfGo); (focus ((repeat (first | with_reducible exact upd_same | (with_reducible refine hg_new (by assumption) ?_) | (with_reducible refine hg_ne (by first | assumption | exact Ne.symm (by assumption) | exact ne_of_none (by assumption) (by assumption) | exact Ne.symm (ne_of_none (by assumption) (by assumption))) ?_))); first | done | assumption | exact upd_same)); (focus (first | exact lk_one | (focus (simp [List.lookup]; done)) | rfl))) | ((with_reducible apply w_isi (r := true)); (focus (first | exact .base (.int _) | exact .base .non | exact .base (.bl _) | exact .base (.str _) | exact .base (.lst (by ((repeat (first | with_reducible exact upd_same | (with_reducible refine hg_new (by assumption) ?_) | (with_reducible refine hg_ne (by first | assumption | exact Ne.symm (by assumption) | exact ne_of_none (by assumption) (by assumption) | exact Ne.symm (ne_of_none (by assumption) (by assumption))) ?_))); first | done | assumption | exact upd_same))) | exact .base (.tup (by ((repeat (first | with_reducible exact upd_same | (with_reducible refine hg_new (by assumption) ?_) | (with_reducible refine hg_ne (by first | assumption | exact Ne.symm (by assumption) | exact ne_of_none (by assumption) (by assumption) | exact Ne.symm (ne_of_none (by assumption) (by assumption))) ?_))); first | done | assumption | exact upd_same))) | exact .base (.dK (by ((repeat (first | with_reducible exact upd_same | (with_reducible refine hg_new (by assumption) ?_) | (with_reducible refine hg_ne (by first | assumption | exact Ne.symm (by assumption) | exact ne_of_none (by assumption) (by assumption) | exact Ne.symm (ne_of_none (by assumption) (by assumption))) ?_))); first | done | assumption | exact upd_same))))); (focus decide +kernel)) | ((with_reducible apply w_isi (r := false)); (focus (first | exact .base (.int _) | exact .base .non | exact .base (.bl _) | exact .base (.str _) | exact .base (.lst (by ((repeat (first | with_reducible exact upd_same | (with_reducible refine hg_new (by assumption) ?_) | (with_reducible refine hg_ne (by first | assumption | exact Ne.symm (by assumption) | exact ne_of_none (by assumption) (by assumption) | exact Ne.symm (ne_of_none (by assumption) (by assumption))) ?_))); first | done | assumption | exact upd_same))) | exact .base (.tup (by ((repeat (first | with_reducible exact upd_same | (with_reducible refine hg_new (by assumption) ?_) | (with_reducible refine hg_ne (by first | assumption | exact Ne.symm (by assumption) | exact ne_of_none (by assumption) (by assumption) | exact Ne.symm (ne_of_none (by assumption) (by assumption))) ?_))); first | done | assumption | exact upd_same))) | exact .base (.dK (by ((repeat (first | with_reducible exact upd_same | (with_reducible refine hg_new (by assumption) ?_) | (with_reducible refine hg_ne (by first | assumption | exact Ne.symm (by assumption) | exact ne_of_none (by assumption) (by assumption) | exact Ne.symm (ne_of_none (by assumption) (by assumption))) ?_))); first | done | assumption | exact upd_same))))); (focus decide +kernel)) | ((with_reducible apply w_slL); (focus ((repeat (first | with_reducible exact upd_same | (with_reducible refine hg_new (by assumption) ?_) | (with_reducible refine hg_ne (by first | assumption | exact Ne.symm (by assumption) | exact ne_of_none (by assumption) (by assumption) | exact Ne.symm (ne_of_none (by assumption) (by assumption))) ?_))); first | done | assumption | exact upd_same))) | ((with_reducible apply w_itemGo); (focus ((repeat (first | with_reducible exact upd_same | (with_reducible refine hg_new (by assumption) ?_) | (with_reducible refine hg_ne (by first | assumption | exact Ne.symm (by assumption) | exact ne_of_none (by assumption) (by assumption) | exact Ne.symm (ne_of_none (by assumption) (by assumption))) ?_))); first | done | assumption | exact upd_same))) | ((with_reducible apply w_lenO); (focus ((repeat (first | with_reducible exact upd_same | (with_reducible refine hg_new (by assumption) ?_) | (with_reducible refine hg_ne (by first | assumption | exact Ne.symm (by assumption) | exact ne_of_none (by assumption) (by assumption) | exact Ne.symm (ne_of_none (by assumption) (by assumption))) ?_))); first | done | assumption | exact upd_same))) | ((with_reducible apply w_gtup); (focus ((repeat (first | with_reducible exact upd_same | (with_reducible refine hg_new (by assumption) ?_) | (with_reducible refine hg_ne (by first | assumption | exact Ne.symm (by assumption) | exact ne_of_none (by assumption) (by assumption) | exact Ne.symm (ne_of_none (by assumption) (by assumption))) ?_))); first | done | assumption | exact upd_same)); (focus rfl)) | ((with_reducible apply w_tyL); (focus ((repeat (first | with_reducible exact upd_same | (with_reducible refine hg_new (by assumption) ?_) | (with_reducible refine hg_ne (by first | assumption | exact Ne.symm (by assumption) | exact ne_of_none (by assumption) (by assumption) | exact Ne.symm (ne_of_none (by assumption) (by assumption))) ?_))); first | done | assumption | exact upd_same))) | ((with_reducible apply w_pop0); (focus ((repeat (first | with_reducible exact upd_same | (with_reducible refine hg_new (by assumption) ?_) | (with_reducible refine hg_ne (by first | assumption | exact Ne.symm (by assumption) | exact ne_of_none (by assumption) (by assumption) | exact Ne.symm (ne_of_none (by assumption) (by assumption))) ?_))); first | done | assumption | exact upd_same))) | ((with_reducible apply w_I); (focus first | (show CMul _ _; first | exact .inl ⟨by omega, by omega⟩ | exact .inr ⟨by omega, by omega⟩) | (show CPow _ _; exact ⟨by omega, by omega, by omega⟩) | (show CDivN _ _; exact ⟨by omega, by omega⟩) | omega)))))
local macro_rules | `(tactic| right) => `(tactic| (repeat (first | with_reducible refine w_seq ?_ | with_reducible refine w_next ?_ | with_reducible refine w_asg ?_ | with_reducible refine w_drop ?_ | with_reducible refine w_ret ?_ | with_reducible refine w_if ?_ | with_reducible refine w_name ?_ | with_reducible refine w_sub ?_ | with_reducible refine w_c ?_ | with_reducible refine w_op ?_ | with_reducible refine w_un ?_ | with_reducible refine w_U ?_ | with_reducible refine w_I0 ?_ | with_reducible refine w_test ?_ | with_reducible refine w_B ?_ | with_reducible refine w_bl ?_ | with_reducible refine w_not ?_ | with_reducible refine w_and ?_ | with_reducible refine w_or ?_ | with_reducible refine w_ifE ?_ | with_reducible refine w_andV ?_ | with_reducible refine w_orV ?_ | with_reducible refine w_notV ?_ | with_reducible refine w_chain ?_ | with_reducible refine w_nil ?_ | with_reducible refine w_cons ?_ | with_reducible refine w_lst ?_ | with_reducible refine w_tup ?_ | with_reducible refine w_cb ?_ | with_reducible refine w_bm ?_ | with_reducible refine w_call ?_ | with_reducible refine w_int1 ?_ | with_reducible refine w_max ?_ | with_reducible refine w_min ?_ | with_reducible refine w_lc ?_ | with_reducible refine w_for ?_ | with_reducible refine w_rng1 ?_ | with_reducible refine w_listI ?_ | with_reducible refine w_tupI ?_ | with_reducible refine w_zipI ?_ | with_reducible refine w_yes ?_ | with_reducible refine w_turn ?_ | with_reducible refine iteT ?_ | with_reducible refine iteF ?_ | with_reducible refine w_gcons ?_ | with_reducible refine w_gnil ?_ | with_reducible refine w_fld ?_ | with_reducible refine w_sfld ?_ | with_reducible refine w_make ?_ | with_reducible refine w_meth ?_ | with_reducible refine w_gsl ?_ | with_reducible refine w_err ?_ | with_reducible refine w_sl ?_ | with_reducible refine w_part ?_ | with_reducible refine w_nopart ?_ | with_reducible refine w_partGo ?_ | with_reducible refine w_methW ?_ | with_reducible refine w_xf ?_ | with_reducible refine w_isB ?_ | with_reducible refine w_iteSame ?_ | with_reducible refine w_iteNSame ?_ | with_reducible refine w_iteNT ?_ | with_reducible refine w_iteNF ?_ | with_reducible refine w_ipI ?_ | with_reducible refine w_isN ?_ | with_reducible refine w_notN ?_ | with_reducible refine w_iteIntNon ?_ | with_reducible refine w_iteNIntNon ?_ | with_reducible refine w_iteNonInt ?_ | with_reducible refine w_par ?_ | with_reducible refine w_par3 ?_ | with_reducible refine w_parGo ?_ | with_reducible refine w_parGo3 ?_ | with_reducible refine w_makeW ?_ | with_reducible refine w_callS ?_ | with_reducible refine w_prop ?_ | with_reducible refine w_item ?_ | with_reducible refine w_gitem ?_ | ((with_reducible apply w_var); (focus rfl)) | ((with_reducible apply w_aug); (focus rfl)) | ((with_reducible refine w_iteStrNe ?_ ?_); (focus decide +kernel)) | ((with_reducible refine w_iteNStrNe ?_ ?_); (focus decide +kernel)) | ((with_reducible refine w_eq ?_ ?_); (focus rfl)) | ((with_reducible refine w_ne ?_ ?_); (focus rfl)) | ((with_reducible apply w_ixL); (focus ((repeat (first | with_reducible exact upd_same | (with_reducible refine hg_new (by assumption) ?_) | (with_reducible refine hg_ne (by first | assumption | exact Ne.symm (by assumption) | exact ne_of_none (by assumption) (by assumption) | exact Ne.symm (ne_of_none (by assumption) (by assumption))) ?_))); first | done | assumption | exact upd_same)); (focus rfl)) | ((with_reducible apply w_ixT); (focus ((repeat (first | with_reducible exact upd_same | (with_reducible refine hg_new (by assumption) ?_) | (with_reducible refine hg_ne (by first | assumption | exact Ne.symm (by assumption) | exact ne_of_none (by assumption) (by assumption) | exact Ne.symm (ne_of_none (by assumption) (by assumption))) ?_))); first | done | assumption | exact upd_same)); (focus rfl)) | ((with_reducible apply w_setL); (focus ((repeat (first | with_reducible exact upd_same | (with_reducible refine hg_new (by assumption) ?_) | (with_reducible refine hg_ne (by first | assumption | exact Ne.symm (by assumption) | exact ne_of_none (by assumption) (by assumption) | exact Ne.symm (ne_of_none (by assumption) (by assumption))) ?_))); first | done | assumption | exact upd_same)); (focus rfl)) | ((with_reducible apply w_len); (focus ((repeat (first | with_reducible exact upd_same | (with_reducible refine hg_new (by assumption) ?_) | (with_reducible refine hg_ne (by first | assumption | exact Ne.symm (by assumption) | exact ne_of_none (by assumption) (by assumption) | exact Ne.symm (ne_of_none (by assumption) (by assumption))) ?_))); first | done | assumption | exact upd_same))) | ((with_reducible apply w_lenT); (focus ((repeat (first | with_reducible exact upd_same | (with_reducible refine hg_new (by assumption) ?_) | (with_reducible refine hg_ne (by first | assumption | exact Ne.symm (by assumption) | exact ne_of_none (by assumption) (by assumption) | exact Ne.symm (ne_of_none (by assumption) (by assumption))) ?_))); first | done | assumption | exact upd_same))) | ((with_reducible apply w_list); (focus ((repeat (first | with_reducible exact upd_same | (with_reducible refine hg_new (by assumption) ?_) | (with_reducible refine hg_ne (by first | assumption | exact Ne.symm (by assumption) | exact ne_of_none (by assumption) (by assumption) | exact Ne.symm (ne_of_none (by assumption) (by assumption))) ?_))); first | done | assumption | exact upd_same))) | ((with_reducible apply w_fldGo); (focus ((repeat (first | with_reducible exact upd_same | (with_reducible refine hg_new (by assumption) ?_) | (with_reducible refine hg_ne (by first | assumption | exact Ne.symm (by assumption) | exact ne_of_none (by assumption) (by assumption) | exact Ne.symm (ne_of_none (by assumption) (by assumption))) ?_))); first | done | assumption | exact upd_same)); (focus assumption); (focus assumption); (focus (first | exact lk_one | (focus (simp [List.lookup]; done)) | rfl))) | ((with_reducible apply w_sfldGo); (focus ((repeat (first | with_reducible exact upd_same | (with_reducible refine hg_new (by assumption) ?_) | (with_reducible refine hg_ne (by first | assumption | exact Ne.symm (by assumption) | exact ne_of_none (by assumption) (by assumption) | exact Ne.symm (ne_of_none (by assumption) (by assumption))) ?_))); first | done | assumption | exact upd_same)); (focus assumption); (focus assumption); (focus decide)) | ((with_reducible apply w_methGo); (focus ((repeat (first | with_reducible exact upd_same | (with_reducible refine hg_new (by assumption) ?_) | (with_reducible refine hg_ne (by first | assumption | exact Ne.symm (by assumption) | exact ne_of_none (by assumption) (by assumption) | exact Ne.symm (ne_of_none (by assumption) (by assumption))) ?_))); first | done | assumption | exact upd_same)); (focus first | exact lk_no (by decide +kernel) | rfl | (simp [List.lookup]; done))) | ((with_reducible apply w_xfGo); (focus ((repeat (first | with_reducible exact upd_same | (with_reducible refine hg_new (by assumption) ?_) | (with_reducible refine hg_ne (by first | assumption | exact Ne.symm (by assumption) | exact ne_of_none (by assumption) (by assumption) | exact Ne.symm (ne_of_none (by assumption) (by assumption))) ?_))); first | done | assumption | exact upd_same)); (focus (first | exact lk_one | (focus (simp [List.lookup]; done)) | rfl))) | ((with_reducible apply w_isi (r := true)); (focus (first | exact .base (.int _) | exact .base .non | exact .base (.bl _) | exact .base (.str _) | exact .base (.lst (by ((repeat (first | with_reducible exact upd_same | (with_reducible refine hg_new (by assumption) ?_) | (with_reducible refine hg_ne (by first | assumption | exact Ne.symm (by assumption) | exact ne_of_none (by assumption) (by assumption) | exact Ne.symm (ne_of_none (by assumption) (by assumption))) ?_))); first | done | assumption | exact upd_same))) | exact .base (.tup (by ((repeat (first | with_reducible exact upd_same | (with_reducible refine hg_new (by assumption) ?_) | (with_reducible refine hg_ne (by first | assumption | exact Ne.symm (by assumption) | exact ne_of_none (by assumption) (by assumption) | exact Ne.symm (ne_of_none (by assumption) (by assumption))) ?_))); first | done | assumption | exact upd_same))) | exact .base (.dK (by ((repeat (first | with_reducible exact upd_same | (with_reducible refine hg_new (by assumption) ?_) | (with_reducible refine hg_ne (by first | assumption | exact Ne.symm (by assumption) | exact ne_of_none (by assumption) (by assumption) | exact Ne.symm (ne_of_none (by assumption) (by assumption))) ?_))); first | done | assumption | exact upd_same))))); (focus decide +kernel)) | ((with_reducible apply w_isi (r := false)); (focus (first | exact .base (.int _) | exact .base .non | exact .base (.bl _) | exact .base (.str _) | exact .base (.lst (by ((repeat (first | with_reducible exact upd_same | (with_reducible refine hg_new (by assumption) ?_) | (with_reducible refine hg_ne (by first | assumption | exact Ne.symm (by assumption) | exact ne_of_none (by assumption) (by assumption) | exact Ne.symm (ne_of_none (by assumption) (by assumption))) ?_))); first | done | assumption | exact upd_same))) | exact .base (.tup (by ((repeat (first | with_reducible exact upd_same | (with_reducible refine hg_new (by assumption) ?_) | (with_reducible refine hg_ne (by first | assumption | exact Ne.symm (by assumption) | exact ne_of_none (by assumption) (by assumption) | exact Ne.symm (ne_of_none (by assumption) (by assumption))) ?_))); first | done | assumption | exact upd_same))) | exact .base (.dK (by ((repeat (first | with_reducible exact upd_same | (with_reducible refine hg_new (by assumption) ?_) | (with_reducible refine hg_ne (by first | assumption | exact Ne.symm (by assumption) | exact ne_of_none (by assumption) (by assumption) | exact Ne.symm (ne_of_none (by assumption) (by assumption))) ?_))); first | done | assumption | exact upd_same))))); (focus decide +kernel)) | ((with_reducible apply w_slL); (focus ((repeat (first | with_reducible exact upd_same | (with_reducible refine hg_new (by assumption) ?_) | (with_reducible refine hg_ne (by first | assumption | exact Ne.symm (by assumption) | exact ne_of_none (by assumption) (by assumption) | exact Ne.symm (ne_of_none (by assumption) (by assumption))) ?_))); first | done | assumption | exact upd_same))) | ((with_reducible apply w_itemGo); (focus ((repeat (first | with_reducible exact upd_same | (with_reducible refine hg_new (by assumption) ?_) | (with_reducible refine hg_ne (by first | assumption | exact Ne.symm (by assumption) | exact ne_of_none (by assumption) (by assumption) | exact Ne.symm (ne_of_none (by assumption) (by assumption))) ?_))); first | done | assumption | exact upd_same))) | ((with_reducible apply w_lenO); (focus ((repeat (first | with_reducible exact upd_same | (with_reducible refine hg_new (by assumption) ?_) | (with_reducible refine hg_ne (by first | assumption | exact Ne.symm (by assumption) | exact ne_of_none (by assumption) (by assumption) | exact Ne.symm (ne_of_none (by assumption) (by assumption))) ?_))); first | done | assumption | exact upd_same))) | ((with_reducible apply w_gtup); (focus ((repeat (first | with_reducible exact upd_same | (with_reducible refine hg_new (by assumption) ?_) | (with_reducible refine hg_ne (by first | assumption | exact Ne.symm (by assumption) | exact ne_of_none (by assumption) (by assumption) | exact Ne.symm (ne_of_none (by assumption) (by assumption))) ?_))); first | done | assumption | exact upd_same)); (focus rfl)) | ((with_reducible apply w_tyL); (focus ((repeat (first | with_reducible exact upd_same | (with_reducible refine hg_new (by assumption) ?_) | (with_reducible refine hg_ne (by first | assumption | exact Ne.symm (by assumption) | exact ne_of_none (by assumption) (by assumption) | exact Ne.symm (ne_of_none (by assumption) (by assumption))) ?_))); first | done | assumption | exact upd_same))) | ((with_reducible apply w_pop0); (focus ((repeat (first | with_reducible exact upd_same | (with_reducible refine hg_new (by assumption) ?_) | (with_reducible refine hg_ne (by first | assumption | exact Ne.symm (by assumption) | exact ne_of_none (by assumption) (by assumption) | exact Ne.symm (ne_of_none (by assumption) (by assumption))) ?_))); first | done | assumption | exact upd_same))) | ((with_reducible apply w_I); (focus first | (show CMul _ _; first | exact .inl ⟨by omega, by omega⟩ | exact .inr ⟨by omega, by omega⟩) | (show CPow _ _; exact ⟨by omega, by omega, by omega⟩) | (show CDivN _ _; exact ⟨by omega, by omega⟩) | omega)) | ((with_reducible refine w_lstGo ?_ ?_); (focus (show _ ≤ sizeLine; decide)); (intro _ _)) | ((with_reducible refine w_tupGo' ?_ ?_); (focus (show _ ≤ sizeLine; decide)); (intro _ _)) | ((with_reducible apply w_isiT ["list", "tuple"] (r := true)); (focus ((repeat (first | with_reducible exact upd_same | (with_reducible refine hg_new (by assumption) ?_) | (with_reducible refine hg_ne (by first | assumption | exact Ne.symm (by assumption) | exact ne_of_none (by assumption) (by assumption) | exact Ne.symm (ne_of_none (by assumption) (by assumption))) ?_))); first | done | assumption | exact upd_same)); (focus rfl); (focus (first | exact .base (.int _) | exact .base .non | exact .base (.bl _) | exact .base (.str _) | exact .base (.lst (by ((repeat (first | with_reducible exact upd_same | (with_reducible refine hg_new (by assumption) ?_) | (with_reducible refine hg_ne (by first | assumption | exact Ne.symm (by assumption) | exact ne_of_none (by assumption) (by assumption) | exact Ne.symm (ne_of_none (by assumption) (by assumption))) ?_))); first | done | assumption | exact upd_same))) | exact .base (.tup (by ((repeat (first | with_reducible exact upd_same | (with_reducible refine hg_new (by assumption) ?_) | (with_reducible refine hg_ne (by first | assumption | exact Ne.symm (by assumption) | exact ne_of_none (by assumption) (by assumption) | exact Ne.symm (ne_of_none (by assumption) (by assumption))) ?_))); first | done | assumption | exact upd_same))) | exact .base (.dK (by ((repeat (first | with_reducible exact upd_same | (with_reducible refine hg_new (by assumption) ?_) | (with_reducible refine hg_ne (by first | assumption | exact Ne.symm (by assumption) | exact ne_of_none (by assumption) (by assumption) | exact Ne.symm (ne_of_none (by assumption) (by assumption))) ?_))); first | done | assumption | exact upd_same))))); (focus decide +kernel)) | ((with_reducible apply w_isiT ["list", "tuple"] (r := false)); (focus ((repeat (first | with_reducible exact upd_same | (with_reducible refine hg_new (by assumption) ?_) | (with_reducible refine hg_ne (by first | assumption | exact Ne.symm (by assumption) | exact ne_of_none (by assumption) (by assumption) | exact Ne.symm (ne_of_none (by assumption) (by assumption))) ?_))); first | done | assumption | exact upd_same)); (focus rfl); (focus (first | exact .base (.int _) | exact .base .non | exact .base (.bl _) | exact .base (.str _) | exact .base (.lst (by ((repeat (first | with_reducible exact upd_same | (with_reducible refine hg_new (by assumption) ?_) | (with_reducible refine hg_ne (by first | assumption | exact Ne.symm (by assumption) | exact ne_of_none (by assumption) (by assumption) | exact Ne.symm (ne_of_none (by assumption) (by assumption))) ?_))); first | done | assumption | exact upd_same))) | exact .base (.tup (by ((repeat (first | with_reducible exact upd_same | (with_reducible refine hg_new (by assumption) ?_) | (with_reducible refine hg_ne (by first | assumption | exact Ne.symm (by assumption) | exact ne_of_none (by assumption) (by assumption) | exact Ne.symm (ne_of_none (by assumption) (by assumption))) ?_))); first | done | assumption | exact upd_same))) | exact .base (.dK (by ((repeat (first | with_reducible exact upd_same | (with_reducible refine hg_new (by assumption) ?_) | (with_reducible refine hg_ne (by first | assumption | exact Ne.symm (by assumption) | exact ne_of_none (by assumption) (by assumption) | exact Ne.symm (ne_of_none (by assumption) (by assumption))) ?_))); first | done | assumption | exact upd_same))))); (focus decide +kernel)) | ((with_reducible apply w_isiT ["bool", "int", "list", "tuple", "dict"] (r := true)); (focus ((repeat (first | with_reducible exact upd_same | (with_reducible refine hg_new (by assumption) ?_) | (with_reducible refine hg_ne (by first | assumption | exact Ne.symm (by assumption) | exact ne_of_none (by assumption) (by assumption) | exact Ne.symm (ne_of_none (by assumption) (by assumption))) ?_))); first | done | assumption | exact upd_same)); (focus rfl); (focus (first | exact .base (.int _) | exact .base .non | exact .base (.bl _) | exact .base (.str _) | exact .base (.lst (by ((repeat (first | with_reducible exact upd_same | (with_reducible refine hg_new (by assumption) ?_) | (with_reducible refine hg_ne (by first | assumption | exact Ne.symm (by assumption) | exact ne_of_none (by assumption) (by assumption) | exact Ne.symm (ne_of_none (by assumption) (by assumption))) ?_))); first | done | assumption | exact upd_same))) | exact .base (.tup (by ((repeat (first | with_reducible exact upd_same | (with_reducible refine hg_new (by assumption) ?_) | (with_reducible refine hg_ne (by first | assumption | exact Ne.symm (by assumption) | exact ne_of_none (by assumption) (by assumption) | exact Ne.symm (ne_of_none (by assumption) (by assumption))) ?_))); first | done | assumption | exact upd_same))) | exact .base (.dK (by ((repeat (first | with_reducible exact upd_same | (with_reducible refine hg_new (by assumption) ?_) | (with_reducible refine hg_ne (by first | assumption | exact Ne.symm (by assumption) | exact ne_of_none (by assumption) (by assumption) | exact Ne.symm (ne_of_none (by assumption) (by assumption))) ?_))); first | done | assumption | exact upd_same))))); (focus decide +kernel)) | ((with_reducible apply w_isiT ["bool", "int", "list", "tuple", "dict"] (r := false)); (focus ((repeat (first | with_reducible exact upd_same | (with_reducible refine hg_new (by assumption) ?_) | (with_reducible refine hg_ne (by first | assumption | exact Ne.symm (by assumption) | exact ne_of_none (by assumption) (by assumption) | exact Ne.symm (ne_of_none (by assumption) (by assumption))) ?_))); first | done | assumption | exact upd_same)); (focus rfl); (focus (first | exact .base (.int _) | exact .base .non | exact .base (.bl _) | exact .base (.str _) | exact .base (.lst (by ((repeat (first | with_reducible exact upd_same | (with_reducible refine hg_new (by assumption) ?_) | (with_reducible refine hg_ne (by first | assumption | exact Ne.symm (by assumption) | exact ne_of_none (by assumption) (by assumption) | exact Ne.symm (ne_of_none (by assumption) (by assumption))) ?_))); first | done | assumption | exact upd_same))) | exact .base (.tup (by ((repeat (first | with_reducible exact upd_same | (with_reducible refine hg_new (by assumption) ?_) | (with_reducible refine hg_ne (by first | assumption | exact Ne.symm (by assumption) | exact ne_of_none (by assumption) (by assumption) | exact Ne.symm (ne_of_none (by assumption) (by assumption))) ?_))); first | done | assumption | exact upd_same))) | exact .base (.dK (by ((repeat (first | with_reducible exact upd_same | (with_reducible refine hg_new (by assumption) ?_) | (with_reducible refine hg_ne (by first | assumption | exact Ne.symm (by assumption) | exact ne_of_none (by assumption) (by assumption) | exact Ne.symm (ne_of_none (by assumption) (by assumption))) ?_))); first | done | assumption | exact upd_same))))); (focus decide +kernel)))))
local macro_rules | `(tactic| and_intros) => `(tactic| ((repeat (first | with_reducible exact upd_same | (with_reducible refine hg_new (by assumption) ?_) | (with_reducible refine hg_ne (by first | assumption | exact Ne.symm (by assumption) | exact ne_of_none (by assumption) (by assumption) | exact Ne.symm (ne_of_none (by assumption) (by assumption))) ?_))); first | done | assumption | exact upd_same))
local macro_rules | `(tactic| ac_rfl) => `(tactic| (repeat (first | with_reducible exact Same.refl _ | (with_reducible refine Same.trans ?_ (Same.new (by assumption))))))

/-- plain objects and the names of their classes -/
inductive Pl (H : Hp) : V → String → Prop
  | int (i : Int) : Pl H (.int i) "int"
  | bl (b : Bool) : Pl H (.bl b) "bool"
  | non : Pl H .non "NoneType"
  | str (x : Str) : Pl H (.str x) "str"
  | lst {a : Addr} {xs : List V} : H a = some (.lst xs) → Pl H (.ref a) "list"
  | tup {a : Addr} {xs : List V} : H a = some (.tup xs) → Pl H (.ref a) "tuple"
  | dct {a : Addr} {kvs : List (Key × V)} : H a = some (.dK kvs) → Pl H (.ref a) "dict"
theorem Odd.pl {H : Hp} {x : V} (h : Odd H x) : ∃ T, Pl H x T := by
  cases h with
  | int i _ => exact ⟨_, .int i⟩
  | bl b => exact ⟨_, .bl b⟩
  | non => exact ⟨_, .non⟩
  | str x _ => exact ⟨_, .str x⟩
  | lst h _ _ => exact ⟨_, .lst h⟩
  | tup0 h => exact ⟨_, .tup h⟩
  | tup1 h _ _ => exact ⟨_, .tup h⟩
  | dct h => exact ⟨_, .dct h⟩
theorem Pl.same {H H' : Hp} {x : V} {T : String} (e : Same H H') (h : Pl H x T) : Pl H' x T := by
  cases h with
  | int i => exact .int i
  | bl b => exact .bl b
  | non => exact .non
  | str x => exact .str x
  | lst h => exact .lst (e _ _ h)
  | tup h => exact .tup (e _ _ h)
  | dct h => exact .dct (e _ _ h)
def wholeV : V → Bool
  | .int _ => true
  | _ => false
def octV : V → Bool
  | .int i => decide (0 ≤ i ∧ i ≤ 255)
  | _ => false
def adrV (n : Int) : V → Bool
  | .int i => decide (0 ≤ i ∧ i < n)
  | _ => false
theorem w_forT {K : PySem.W.Frag} {g : TG} {tb : TS} {D : Ends} {σ : St} {H : Hp} {a : Addr} {xs : List V} (Pv : Nat → St → Hp → Prop) (h0 : Pv 0 σ H) (hl : ∀ i σ H, i ≤ xs.length → Pv i σ H → H a = some (.tup xs)) (hs : ∀ i x σ H, xs[i]? = some x → Pv i σ H → g x σ H fun σ2 H2 => tb { D with nx := Pv (i + 1), ct := Pv (i + 1), bk := D.nx } σ2 H2) (hd : ∀ σ H, Pv xs.length σ H → D.nx σ H) : ForIt g tb D σ (Itt K a) H :=
  for_tup (K := K) (a := a) (xs := xs) Pv h0 (fun i σ H1 hi p => SqT.of (hl i σ H1 hi p)) hs hd
/-- a memory at p: its octets stand at l -/
def MemAt (H : Hp) (C p l : Addr) (xs : List Int) : Prop := p ≠ l ∧ ∃ dx, H p = some (.ins C dx [("cells", .ref l)]) ∧ H l = some (.lst (xs.map V.int))
theorem MemAt.fr {H H' : Hp} {C p l : Addr} {xs : List Int} (h : MemAt H C p l xs) (hp : ∀ o, H p = some o → H' p = some o) (hl : ∀ o, H l = some o → H' l = some o) : MemAt H' C p l xs :=
  let ⟨ne, dx, h1, h2⟩ := h
  ⟨ne, dx, hp _ h1, hl _ h2⟩
section
variable {P : Program} {w : World} {K : PySem.W.Frag} {mg : Str → Option Value} {base : Heap}
def spWhole : Sp := fun vs H Q _ => ∃ x T, vs = [x] ∧ Pl H x T ∧ Q (.bl (wholeV x)) H
theorem ok_whole {f : Addr} {fd : FuncData} (F : Fun K "is_whole" "is_whole" s_is_whole f fd) (T : Txt K mg) : FnOk P w K mg base CX0 1 f fd P_is_whole spWhole := by
  refine F.ok sc_is_whole (fun vs H Q E h => ?_) (fun cdv A outer s H vs Q E hr h => ?_)
  · obtain ⟨_, _, rfl, _⟩ := h
    rfl
  · obtain ⟨x, t, rfl, pl, k⟩ := h
    refine ⟨_, (pss_one (ps_ret (pe_and (pe_callB (isi_k (K := K) rfl) (by rfl) T.z_isinstance (by decide +kernel) (pa_cons (pv 0) (pa_cons (pe_bltn (v := .ty "int") (by rfl) T.z_int (by decide +kernel) rfl) pa_nil))) (pe_one (pe_not (pe_callB (isi_k (K := K) rfl) (by rfl) T.z_isinstance (by decide +kernel) (pa_cons (pv 0) (pa_cons (pe_bltn (v := .ty "bool") (by rfl) T.z_bool (by decide +kernel) rfl) pa_nil)))))))), ?_⟩
    cases pl with
    | int i => left; exact k
    | bl b => left; exact k
    | non => left; exact k
    | str x => left; exact k
    | lst h => left; exact k
    | tup h => left; exact k
    | dct h => left; exact k
def spOctet : Sp := fun vs H Q _ => ∃ x T, vs = [x] ∧ Pl H x T ∧ Q (.bl (octV x)) H
theorem ok_octet {f : Addr} {fd : FuncData} (F : Fun K "is_octet" "is_octet" s_is_octet f fd) (T : Txt K mg) (D_is_whole : CallOk P w K mg base "is_whole" 1 spWhole) : FnOk P w K mg base CX0 3 f fd P_is_octet spOctet := by
  refine F.ok sc_is_octet (fun vs H Q E h => ?_) (fun cdv A outer s H vs Q E hr h => ?_)
  · obtain ⟨_, _, rfl, _⟩ := h
    rfl
  · obtain ⟨x, t, rfl, pl, k⟩ := h
    refine ⟨_, (pss_one (ps_ret (pe_and (pe_callD D_is_whole (hr.mono (by decide)) (by rfl) (pa_cons (pv 0) pa_nil)) (pe_one (pe_chain op_le op_le pe_int (pv 0) pe_int))))), ?_⟩
    left
    refine ⟨x, t, rfl, pl, ?_⟩
    cases pl with
    | int i =>
      simp only [wholeV]
      left
      refine w_ite (fun h => ?_) (fun h => ?_)
      · left
        have e : decide (i ≤ 255) = octV (.int i) := by simp [octV, h]
        rw [e]; exact k
      · have e : false = octV (.int i) := by simp [octV, h]
        rw [e]; exact k
    | _ => simp only [wholeV]; left; exact k
def spAddr : Sp := fun vs H Q _ => ∃ x T n, vs = [x, .int n] ∧ Pl H x T ∧ Q (.bl (adrV n x)) H
theorem ok_addr {f : Addr} {fd : FuncData} (F : Fun K "is_address" "is_address" s_is_address f fd) (T : Txt K mg) (D_is_whole : CallOk P w K mg base "is_whole" 1 spWhole) : FnOk P w K mg base CX0 3 f fd P_is_address spAddr := by
  refine F.ok sc_is_address (fun vs H Q E h => ?_) (fun cdv A outer s H vs Q E hr h => ?_)
  · obtain ⟨_, _, _, rfl, _⟩ := h
    rfl
  · obtain ⟨x, t, n, rfl, pl, k⟩ := h
    refine ⟨_, (pss_one (ps_ret (pe_and (pe_callD D_is_whole (hr.mono (by decide)) (by rfl) (pa_cons (pv 0) pa_nil)) (pe_one (pe_chain op_le op_lt pe_int (pv 0) (pv 1)))))), ?_⟩
    left
    refine ⟨x, t, rfl, pl, ?_⟩
    cases pl with
    | int i =>
      simp only [wholeV]
      left
      refine w_ite (fun h => ?_) (fun h => ?_)
      · left
        have e : decide (i < n) = adrV n (.int i) := by simp [adrV, h]
        rw [e]; exact k
      · have e : false = adrV n (.int i) := by simp [adrV, h]
        rw [e]; exact k
    | _ => simp only [wholeV]; left; exact k
theorem ok_err_BadOctet {f C : Addr} {fd : FuncData} (F : Fun K "__init__" "BadOctet.__init__" s_BadOctet___init__ f fd) (o : OexC K C) (nf : PySem.W.findIn K (.ref C) "value" = some none) : FnOk P w K mg base CX0 1 f fd P_BadOctet___init__ (spErr C "value") := by
  refine F.ok sc_BadOctet___init__ (fun vs H Q E h => ?_) (fun cdv A outer s H vs Q E hr h => ?_)
  · obtain ⟨_, _, rfl, _⟩ := h
    rfl
  · obtain ⟨a, v, rfl, ha, k⟩ := h
    refine ⟨_, pss_one (ps_ost (pv 0) (pv 1)), ?_⟩
    exact ⟨v, rfl, .ref a, rfl, a, C, rfl, o, nf, .inl ⟨ha, fun d hd hda => k d hd hda⟩⟩
theorem ok_err_BadAddress {f C : Addr} {fd : FuncData} (F : Fun K "__init__" "BadAddress.__init__" s_BadAddress___init__ f fd) (o : OexC K C) (nf : PySem.W.findIn K (.ref C) "octet" = some none) : FnOk P w K mg base CX0 1 f fd P_BadAddress___init__ (spErr C "octet") := by
  refine F.ok sc_BadAddress___init__ (fun vs H Q E h => ?_) (fun cdv A outer s H vs Q E hr h => ?_)
  · obtain ⟨_, _, rfl, _⟩ := h
    rfl
  · obtain ⟨a, v, rfl, ha, k⟩ := h
    refine ⟨_, pss_one (ps_ost (pv 0) (pv 1)), ?_⟩
    exact ⟨v, rfl, .ref a, rfl, a, C, rfl, o, nf, .inl ⟨ha, fun d hd hda => k d hd hda⟩⟩
/-- a list or a tuple of plain objects -/
def SeqAt2 (H : Hp) (a : Addr) (xs : List V) : Prop := (H a = some (.lst xs) ∨ H a = some (.tup xs)) ∧ ∀ x ∈ xs, ∃ T, Pl H x T
/-- the first that is no octet reaches E -/
def ErrAt (CB : Addr) (H : Hp) (xs : List V) (E : XK) : Prop := ∀ (i : Nat) x, xs[i]? = some x → octV x = false → (∀ (j : Nat) y, j < i → xs[j]? = some y → octV y = true) → ∀ d H', H d = none → Same H H' → H' d = some (.xd [("value", x)]) → E (.ref CB) (some d) H'
def spChk (CB : Addr) : Sp := fun vs H Q E => ∃ (a : Addr) (xs : List V), vs = [.ref a] ∧ SeqAt2 H a xs ∧ ErrAt CB H xs E ∧ ((∀ x ∈ xs, octV x = true) → ∀ p, H p = none → Q (.ref p) (upd H p (.lst xs)))
theorem ok_chk {f CB : Addr} {fd : FuncData} (F : Fun K "checked_octets" "checked_octets" s_checked_octets f fd) (T : Txt K mg) (D_is_octet : CallOk P w K mg base "is_octet" 3 spOctet) (E_BadOctet : ErrOk P w K mg base "BadOctet" CB "value") : FnOk P w K mg base (L2.CX P w) 5 f fd P_checked_octets (spChk CB) := by
  refine F.okX sc_checked_octets (fun vs H Q E h => ?_) (fun cdv A outer s H vs Q E hr h => ?_)
  · obtain ⟨_, _, rfl, _⟩ := h
    rfl
  · obtain ⟨a, xs, rfl, ⟨hs, pl⟩, er, k⟩ := h
    rcases hs with ha | ha
    · refine ⟨_, (pss_cons (ps_for (passes_of rfl) rfl (ilist_k (K := K) rfl (pv 0)) (pg_name (i := 1) sc_checked_octets.nd rfl (Or.inl rfl)) (pss_one (ps_if (pt_not (pt_val (pe_callD D_is_octet (hr.mono (by decide)) (by rfl) (pa_cons (pv 1) pa_nil)))) (pss_one (ps_raise rfl (takes_of rfl rfl rfl rfl) (pmk_err E_BadOctet (hr.mono (by decide)) (by rfl) (pa_cons (pv 1) pa_nil)))) pss_nil)))
      (pss_one (ps_ret (pe_callTy (list_k (K := K) rfl) (by rfl) T.z_list (by decide +kernel) (pa_cons (pv 0) pa_nil))))), ?_⟩
      left
      refine w_listGo ha (w_forL (xs := xs) (fun i σ H1 => (∃ v, σ = [some (.ref a), v]) ∧ H1 = H ∧ ∀ (j : Nat) y, j < i → xs[j]? = some y → octV y = true) ⟨⟨none, rfl⟩, rfl, fun j y hj => absurd hj (Nat.not_lt_zero _)⟩ ?_ ?_ ?_)
      · rintro i σ H1 _ ⟨_, rfl, _⟩
        exact ha
      · rintro i x σ H1 hi ⟨⟨v, rfl⟩, rfl, ih⟩
        obtain ⟨t, plx⟩ := pl x (List.mem_of_getElem? hi)
        left
        refine ⟨x, t, rfl, plx, ?_⟩
        cases eo : octV x with
        | true =>
          left
          refine ⟨⟨_, rfl⟩, rfl, fun j y hj hy => ?_⟩
          rcases Nat.lt_or_ge j i with h | h
          · exact ih j y h hy
          · obtain rfl : j = i := by omega
            rw [hi] at hy; cases hy; exact eo
        | false =>
          left
          exact w_errGo (er i x hi eo ih)
      · rintro σ H1 ⟨⟨v, rfl⟩, rfl, ih⟩
        have hx : ∀ x ∈ xs, octV x = true := fun x hx => by
          obtain ⟨j, hj⟩ := List.getElem?_of_mem hx
          exact ih j x (List.getElem?_eq_some_iff.mp hj).1 hj
        left
        exact k hx
    · refine ⟨_, (pss_cons (ps_for (passes_of rfl) rfl (itup_k (K := K) rfl (pv 0)) (pg_name (i := 1) sc_checked_octets.nd rfl (Or.inl rfl)) (pss_one (ps_if (pt_not (pt_val (pe_callD D_is_octet (hr.mono (by decide)) (by rfl) (pa_cons (pv 1) pa_nil)))) (pss_one (ps_raise rfl (takes_of rfl rfl rfl rfl) (pmk_err E_BadOctet (hr.mono (by decide)) (by rfl) (pa_cons (pv 1) pa_nil)))) pss_nil)))
      (pss_one (ps_ret (pe_callTy (list_k (K := K) rfl) (by rfl) T.z_list (by decide +kernel) (pa_cons (pv 0) pa_nil))))), ?_⟩
      left
      refine w_tupGo ha (w_forT (xs := xs) (fun i σ H1 => (∃ v, σ = [some (.ref a), v]) ∧ H1 = H ∧ ∀ (j : Nat) y, j < i → xs[j]? = some y → octV y = true) ⟨⟨none, rfl⟩, rfl, fun j y hj => absurd hj (Nat.not_lt_zero _)⟩ ?_ ?_ ?_)
      · rintro i σ H1 _ ⟨_, rfl, _⟩
        exact ha
      · rintro i x σ H1 hi ⟨⟨v, rfl⟩, rfl, ih⟩
        obtain ⟨t, plx⟩ := pl x (List.mem_of_getElem? hi)
        left
        refine ⟨x, t, rfl, plx, ?_⟩
        cases eo : octV x with
        | true =>
          left
          refine ⟨⟨_, rfl⟩, rfl, fun j y hj hy => ?_⟩
          rcases Nat.lt_or_ge j i with h | h
          · exact ih j y h hy
          · obtain rfl : j = i := by omega
            rw [hi] at hy; cases hy; exact eo
        | false =>
          left
          exact w_errGo (er i x hi eo ih)
      · rintro σ H1 ⟨⟨v, rfl⟩, rfl, ih⟩
        have hx : ∀ x ∈ xs, octV x = true := fun x hx => by
          obtain ⟨j, hj⟩ := List.getElem?_of_mem hx
          exact ih j x (List.getElem?_eq_some_iff.mp hj).1 hj
        left
        refine ⟨a, xs, rfl, .inr (SqT.of ha), ?_⟩
        exact k hx
end

local macro_rules | `(tactic| left) => `(tactic| (repeat (first | with_reducible refine w_seq ?_ | with_reducible refine w_next ?_ | with_reducible refine w_asg ?_ | with_reducible refine w_drop ?_ | with_reducible refine w_ret ?_ | with_reducible refine w_if ?_ | with_reducible refine w_name ?_ | with_reducible refine w_sub ?_ | with_reducible refine w_c ?_ | with_reducible refine w_op ?_ | with_reducible refine w_un ?_ | with_reducible refine w_U ?_ | with_reducible refine w_I0 ?_ | with_reducible refine w_test ?_ | with_reducible refine w_B ?_ | with_reducible refine w_bl ?_ | with_reducible refine w_not ?_ | with_reducible refine w_and ?_ | with_reducible refine w_or ?_ | with_reducible refine w_ifE ?_ | with_reducible refine w_andV ?_ | with_reducible refine w_orV ?_ | with_reducible refine w_notV ?_ | with_reducible refine w_chain ?_ | with_reducible refine w_nil ?_ | with_reducible refine w_cons ?_ | with_reducible refine w_lst ?_ | with_reducible refine w_tup ?_ | with_reducible refine w_cb ?_ | with_reducible refine w_bm ?_ | with_reducible refine w_call ?_ | with_reducible refine w_int1 ?_ | with_reducible refine w_max ?_ | with_reducible refine w_min ?_ | with_reducible refine w_lc ?_ | with_reducible refine w_for ?_ | with_reducible refine w_rng1 ?_ | with_reducible refine w_listI ?_ | with_reducible refine w_tupI ?_ | with_reducible refine w_zipI ?_ | with_reducible refine w_yes ?_ | with_reducible refine w_turn ?_ | with_reducible refine iteT ?_ | with_reducible refine iteF ?_ | with_reducible refine w_gcons ?_ | with_reducible refine w_gnil ?_ | with_reducible refine w_fld ?_ | with_reducible refine w_sfld ?_ | with_reducible refine w_make ?_ | with_reducible refine w_meth ?_ | with_reducible refine w_gsl ?_ | with_reducible refine w_err ?_ | with_reducible refine w_sl ?_ | with_reducible refine w_part ?_ | with_reducible refine w_nopart ?_ | with_reducible refine w_partGo ?_ | with_reducible refine w_methW ?_ | with_reducible refine w_xf ?_ | with_reducible refine w_isB ?_ | with_reducible refine w_iteSame ?_ | with_reducible refine w_iteNSame ?_ | with_reducible refine w_iteNT ?_ | with_reducible refine w_iteNF ?_ | with_reducible refine w_ipI ?_ | with_reducible refine w_isN ?_ | with_reducible refine w_notN ?_ | with_reducible refine w_iteIntNon ?_ | with_reducible refine w_iteNIntNon ?_ | with_reducible refine w_iteNonInt ?_ | with_reducible refine w_par ?_ | with_reducible refine w_par3 ?_ | with_reducible refine w_parGo ?_ | with_reducible refine w_parGo3 ?_ | with_reducible refine w_makeW ?_ | with_reducible refine w_callS ?_ | with_reducible refine w_prop ?_ | with_reducible refine w_item ?_ | with_reducible refine w_gitem ?_ | ((with_reducible apply w_var); (focus rfl)) | ((with_reducible apply w_aug); (focus rfl)) | ((with_reducible refine w_iteStrNe ?_ ?_); (focus decide +kernel)) | ((with_reducible refine w_iteNStrNe ?_ ?_); (focus decide +kernel)) | ((with_reducible refine w_eq ?_ ?_); (focus rfl)) | ((with_reducible refine w_ne ?_ ?_); (focus rfl)) | ((with_reducible apply w_ixL); (focus ((repeat (first | with_reducible exact upd_same | (with_reducible refine hg_new (by assumption) ?_) | (with_reducible refine hg_ne (by first | assumption | exact Ne.symm (by assumption) | exact ne_of_none (by assumption) (by assumption) | exact Ne.symm (ne_of_none (by assumption) (by assumption))) ?_))); first | done | assumption | exact upd_same)); (focus rfl)) | ((with_reducible apply w_ixT); (focus ((repeat (first | with_reducible exact upd_same | (with_reducible refine hg_new (by assumption) ?_) | (with_reducible refine hg_ne (by first | assumption | exact Ne.symm (by assumption) | exact ne_of_none (by assumption) (by assumption) | exact Ne.symm (ne_of_none (by assumption) (by assumption))) ?_))); first | done | assumption | exact upd_same)); (focus rfl)) | ((with_reducible apply w_setL); (focus ((repeat (first | with_reducible exact upd_same | (with_reducible refine hg_new (by assumption) ?_) | (with_reducible refine hg_ne (by first | assumption | exact Ne.symm (by assumption) | exact ne_of_none (by assumption) (by assumption) | exact Ne.symm (ne_of_none (by assumption) (by assumption))) ?_))); first | done | assumption | exact upd_same)); (focus rfl)) | ((with_reducible apply w_len); (focus ((repeat (first | with_reducible exact upd_same | (with_reducible refine hg_new (by assumption) ?_) | (with_reducible refine hg_ne (by first | assumption | exact Ne.symm (by assumption) | exact ne_of_none (by assumption) (by assumption) | exact Ne.symm (ne_of_none (by assumption) (by assumption))) ?_))); first | done | assumption | exact upd_same))) | ((with_reducible apply w_lenT); (focus ((repeat (first | with_reducible exact upd_same | (with_reducible refine hg_new (by assumption) ?_) | (with_reducible refine hg_ne (by first | assumption | exact Ne.symm (by assumption) | exact ne_of_none (by assumption) (by assumption) | exact Ne.symm (ne_of_none (by assumption) (by assumption))) ?_))); first | done | assumption | exact upd_same))) | ((with_reducible apply w_list); (focus ((repeat (first | with_reducible exact upd_same | (with_reducible refine hg_new (by assumption) ?_) | (with_reducible refine hg_ne (by first | assumption | exact Ne.symm (by assumption) | exact ne_of_none (by assumption) (by assumption) | exact Ne.symm (ne_of_none (by assumption) (by assumption))) ?_))); first | done | assumption | exact upd_same))) | ((with_reducible apply w_fldGo); (focus ((repeat (first | with_reducible exact upd_same | (with_reducible refine hg_new (by assumption) ?_) | (with_reducible refine hg_ne (by first | assumption | exact Ne.symm (by assumption) | exact ne_of_none (by assumption) (by assumption) | exact Ne.symm (ne_of_none (by assumption) (by assumption))) ?_))); first | done | assumption | exact upd_same)); (focus assumption); (focus assumption); (focus (first | exact lk_one | (focus (simp [List.lookup]; done)) | rfl))) | ((with_reducible apply w_sfldGo); (focus ((repeat (first | with_reducible exact upd_same | (with_reducible refine hg_new (by assumption) ?_) | (with_reducible refine hg_ne (by first | assumption | exact Ne.symm (by assumption) | exact ne_of_none (by assumption) (by assumption) | exact Ne.symm (ne_of_none (by assumption) (by assumption))) ?_))); first | done | assumption | exact upd_same)); (focus assumption); (focus assumption); (focus decide)) | ((with_reducible apply w_methGo); (focus ((repeat (first | with_reducible exact upd_same | (with_reducible refine hg_new (by assumption) ?_) | (with_reducible refine hg_ne (by first | assumption | exact Ne.symm (by assumption) | exact ne_of_none (by assumption) (by assumption) | exact Ne.symm (ne_of_none (by assumption) (by assumption))) ?_))); first | done | assumption | exact upd_same)); (focus first | exact lk_no (by decide +kernel) | rfl | (simp [List.lookup]; done))) | ((with_reducible apply w_xfGo); (focus ((repeat (first | with_reducible exact upd_same | (with_reducible refine hg_new (by assumption) ?_) | (with_reducible refine hg_ne (by first | assumption | exact Ne.symm (by assumption) | exact ne_of_none (by assumption) (by assumption) | exact Ne.symm (ne_of_none (by assumption) (by assumption))) ?_))); first | done | assumption | exact upd_same)); (focus (first | exact lk_one | (focus (simp [List.lookup]; done)) | rfl))) | ((with_reducible apply w_isi (r := true)); (focus (first | exact .base (.int _) | exact .base .non | exact .base (.bl _) | exact .base (.str _) | exact .base (.lst (by ((repeat (first | with_reducible exact upd_same | (with_reducible refine hg_new (by assumption) ?_) | (with_reducible refine hg_ne (by first | assumption | exact Ne.symm (by assumption) | exact ne_of_none (by assumption) (by assumption) | exact Ne.symm (ne_of_none (by assumption) (by assumption))) ?_))); first | done | assumption | exact upd_same))) | exact .base (.tup (by ((repeat (first | with_reducible exact upd_same | (with_reducible refine hg_new (by assumption) ?_) | (with_reducible refine hg_ne (by first | assumption | exact Ne.symm (by assumption) | exact ne_of_none (by assumption) (by assumption) | exact Ne.symm (ne_of_none (by assumption) (by assumption))) ?_))); first | done | assumption | exact upd_same))) | exact .base (.dK (by ((repeat (first | with_reducible exact upd_same | (with_reducible refine hg_new (by assumption) ?_) | (with_reducible refine hg_ne (by first | assumption | exact Ne.symm (by assumption) | exact ne_of_none (by assumption) (by assumption) | exact Ne.symm (ne_of_none (by assumption) (by assumption))) ?_))); first | done | assumption | exact upd_same))))); (focus decide +kernel)) | ((with_reducible apply w_isi (r := false)); (focus (first | exact .base (.int _) | exact .base .non | exact .base (.bl _) | exact .base (.str _) | exact .base (.lst (by ((repeat (first | with_reducible exact upd_same | (with_reducible refine hg_new (by assumption) ?_) | (with_reducible refine hg_ne (by first | assumption | exact Ne.symm (by assumption) | exact ne_of_none (by assumption) (by assumption) | exact Ne.symm (ne_of_none (by assumption) (by assumption))) ?_))); first | done | assumption | exact upd_same))) | exact .base (.tup (by ((repeat (first | with_reducible exact upd_same | (with_reducible refine hg_new (by assumption) ?_) | (with_reducible refine hg_ne (by first | assumption | exact Ne.symm (by assumption) | exact ne_of_none (by assumption) (by assumption) | exact Ne.symm (ne_of_none (by assumption) (by assumption))) ?_))); first | done | assumption | exact upd_same))) | exact .base (.dK (by ((repeat (first | with_reducible exact upd_same | (with_reducible refine hg_new (by assumption) ?_) | (with_reducible refine hg_ne (by first | assumption | exact Ne.symm (by assumption) | exact ne_of_none (by assumption) (by assumption) | exact Ne.symm (ne_of_none (by assumption) (by assumption))) ?_))); first | done | assumption | exact upd_same))))); (focus decide +kernel)) | ((with_reducible apply w_slL); (focus ((repeat (first | with_reducible exact upd_same | (with_reducible refine hg_new (by assumption) ?_) | (with_reducible refine hg_ne (by first | assumption | exact Ne.symm (by assumption) | exact ne_of_none (by assumption) (by assumption) | exact Ne.symm (ne_of_none (by assumption) (by assumption))) ?_))); first | done | assumption | exact upd_same))) | ((with_reducible apply w_itemGo); (focus ((repeat (first | with_reducible exact upd_same | (with_reducible refine hg_new (by assumption) ?_) | (with_reducible refine hg_ne (by first | assumption | exact Ne.symm (by assumption) | exact ne_of_none (by assumption) (by assumption) | exact Ne.symm (ne_of_none (by assumption) (by assumption))) ?_))); first | done | assumption | exact upd_same))) | ((with_reducible apply w_lenO); (focus ((repeat (first | with_reducible exact upd_same | (with_reducible refine hg_new (by assumption) ?_) | (with_reducible refine hg_ne (by first | assumption | exact Ne.symm (by assumption) | exact ne_of_none (by assumption) (by assumption) | exact Ne.symm (ne_of_none (by assumption) (by assumption))) ?_))); first | done | assumption | exact upd_same))) | ((with_reducible apply w_gtup); (focus ((repeat (first | with_reducible exact upd_same | (with_reducible refine hg_new (by assumption) ?_) | (with_reducible refine hg_ne (by first | assumption | exact Ne.symm (by assumption) | exact ne_of_none (by assumption) (by assumption) | exact Ne.symm (ne_of_none (by assumption) (by assumption))) ?_))); first | done | assumption | exact upd_same)); (focus rfl)) | ((with_reducible apply w_tyL); (focus ((repeat (first | with_reducible exact upd_same | (with_reducible refine hg_new (by assumption) ?_) | (with_reducible refine hg_ne (by first | assumption | exact Ne.symm (by assumption) | exact ne_of_none (by assumption) (by assumption) | exact Ne.symm (ne_of_none (by assumption) (by assumption))) ?_))); first | done | assumption | exact upd_same))) | ((with_reducible apply w_pop0); (focus ((repeat (first | with_reducible exact upd_same | (with_reducible refine hg_new (by assumption) ?_) | (with_reducible refine hg_ne (by first | assumption | exact Ne.symm (by assumption) | exact ne_of_none (by assumption) (by assumption) | exact Ne.symm (ne_of_none (by assumption) (by assumption))) ?_))); first | done | assumption | exact upd_same))) | ((with_reducible apply w_I); (focus first | (show CMul _ _; first | exact .inl ⟨by omega, by omega⟩ | exact .inr ⟨by omega, by omega⟩) | (show CPow _ _; exact ⟨by omega, by omega, by omega⟩) | (show CDivN _ _; exact ⟨by omega, by omega⟩) | omega)))))
local macro_rules | `(tactic| right) => `(tactic| (repeat (first | with_reducible refine w_seq ?_ | with_reducible refine w_next ?_ | with_reducible refine w_asg ?_ | with_reducible refine w_drop ?_ | with_reducible refine w_ret ?_ | with_reducible refine w_if ?_ | with_reducible refine w_name ?_ | with_reducible refine w_sub ?_ | with_reducible refine w_c ?_ | with_reducible refine w_op ?_ | with_reducible refine w_un ?_ | with_reducible refine w_U ?_ | with_reducible refine w_I0 ?_ | with_reducible refine w_test ?_ | with_reducible refine w_B ?_ | with_reducible refine w_bl ?_ | with_reducible refine w_not ?_ | with_reducible refine w_and ?_ | with_reducible refine w_or ?_ | with_reducible refine w_ifE ?_ | with_reducible refine w_andV ?_ | with_reducible refine w_orV ?_ | with_reducible refine w_notV ?_ | with_reducible refine w_chain ?_ | with_reducible refine w_nil ?_ | with_reducible refine w_cons ?_ | with_reducible refine w_lst ?_ | with_reducible refine w_tup ?_ | with_reducible refine w_cb ?_ | with_reducible refine w_bm ?_ | with_reducible refine w_call ?_ | with_reducible refine w_int1 ?_ | with_reducible refine w_max ?_ | with_reducible refine w_min ?_ | with_reducible refine w_lc ?_ | with_reducible refine w_for ?_ | with_reducible refine w_rng1 ?_ | with_reducible refine w_listI ?_ | with_reducible refine w_tupI ?_ | with_reducible refine w_zipI ?_ | with_reducible refine w_yes ?_ | with_reducible refine w_turn ?_ | with_reducible refine iteT ?_ | with_reducible refine iteF ?_ | with_reducible refine w_gcons ?_ | with_reducible refine w_gnil ?_ | with_reducible refine w_fld ?_ | with_reducible refine w_sfld ?_ | with_reducible refine w_make ?_ | with_reducible refine w_meth ?_ | with_reducible refine w_gsl ?_ | with_reducible refine w_err ?_ | with_reducible refine w_sl ?_ | with_reducible refine w_part ?_ | with_reducible refine w_nopart ?_ | with_reducible refine w_partGo ?_ | with_reducible refine w_methW ?_ | with_reducible refine w_xf ?_ | with_reducible refine w_isB ?_ | with_reducible refine w_iteSame ?_ | with_reducible refine w_iteNSame ?_ | with_reducible refine w_iteNT ?_ | with_reducible refine w_iteNF ?_ | with_reducible refine w_ipI ?_ | with_reducible refine w_isN ?_ | with_reducible refine w_notN ?_ | with_reducible refine w_iteIntNon ?_ | with_reducible refine w_iteNIntNon ?_ | with_reducible refine w_iteNonInt ?_ | with_reducible refine w_par ?_ | with_reducible refine w_par3 ?_ | with_reducible refine w_parGo ?_ | with_reducible refine w_parGo3 ?_ | with_reducible refine w_makeW ?_ | with_reducible refine w_callS ?_ | with_reducible refine w_prop ?_ | with_reducible refine w_item ?_ | with_reducible refine w_gitem ?_ | ((with_reducible apply w_var); (focus rfl)) | ((with_reducible apply w_aug); (focus rfl)) | ((with_reducible refine w_iteStrNe ?_ ?_); (focus decide +kernel)) | ((with_reducible refine w_iteNStrNe ?_ ?_); (focus decide +kernel)) | ((with_reducible refine w_eq ?_ ?_); (focus rfl)) | ((with_reducible refine w_ne ?_ ?_); (focus rfl)) | ((with_reducible apply w_ixL); (focus ((repeat (first | with_reducible exact upd_same | (with_reducible refine hg_new (by assumption) ?_) | (with_reducible refine hg_ne (by first | assumption | exact Ne.symm (by assumption) | exact ne_of_none (by assumption) (by assumption) | exact Ne.symm (ne_of_none (by assumption) (by assumption))) ?_))); first | done | assumption | exact upd_same)); (focus rfl)) | ((with_reducible apply w_ixT); (focus ((repeat (first | with_reducible exact upd_same | (with_reducible refine hg_new (by assumption) ?_) | (with_reducible refine hg_ne (by first | assumption | exact Ne.symm (by assumption) | exact ne_of_none (by assumption) (by assumption) | exact Ne.symm (ne_of_none (by assumption) (by assumption))) ?_))); first | done | assumption | exact upd_same)); (focus rfl)) | ((with_reducible apply w_setL); (focus ((repeat (first | with_reducible exact upd_same | (with_reducible refine hg_new (by assumption) ?_) | (with_reducible refine hg_ne (by first | assumption | exact Ne.symm (by assumption) | exact ne_of_none (by assumption) (by assumption) | exact Ne.symm (ne_of_none (by assumption) (by assumption))) ?_))); first | done | assumption | exact upd_same)); (focus rfl)) | ((with_reducible apply w_len); (focus ((repeat (first | with_reducible exact upd_same | (with_reducible refine hg_new (by assumption) ?_) | (with_reducible refine hg_ne (by first | assumption | exact Ne.symm (by assumption) | exact ne_of_none (by assumption) (by assumption) | exact Ne.symm (ne_of_none (by assumption) (by assumption))) ?_))); first | done | assumption | exact upd_same))) | ((with_reducible apply w_lenT); (focus ((repeat (first | with_reducible exact upd_same | (with_reducible refine hg_new (by assumption) ?_) | (with_reducible refine hg_ne (by first | assumption | exact Ne.symm (by assumption) | exact ne_of_none (by assumption) (by assumption) | exact Ne.symm (ne_of_none (by assumption) (by assumption))) ?_))); first | done | assumption | exact upd_same))) | ((with_reducible apply w_list); (focus ((repeat (first | with_reducible exact upd_same | (with_reducible refine hg_new (by assumption) ?_) | (with_reducible refine hg_ne (by first | assumption | exact Ne.symm (by assumption) | exact ne_of_none (by assumption) (by assumption) | exact Ne.symm (ne_of_none (by assumption) (by assumption))) ?_))); first | done | assumption | exact upd_same))) | ((with_reducible apply w_fldGo); (focus ((repeat (first | with_reducible exact upd_same | (with_reducible refine hg_new (by assumption) ?_) | (with_reducible refine hg_ne (by first | assumption | exact Ne.symm (by assumption) | exact ne_of_none (by assumption) (by assumption) | exact Ne.symm (ne_of_none (by assumption) (by assumption))) ?_))); first | done | assumption | exact upd_same)); (focus assumption); (focus assumption); (focus (first | exact lk_one | (focus (simp [List.lookup]; done)) | rfl))) | ((with_reducible apply w_sfldGo); (focus ((repeat (first | with_reducible exact upd_same | (with_reducible refine hg_new (by assumption) ?_) | (with_reducible refine hg_ne (by first | assumption | exact Ne.symm (by assumption) | exact ne_of_none (by assumption) (by assumption) | exact Ne.symm (ne_of_none (by assumption) (by assumption))) ?_))); first | done | assumption | exact upd_same)); (focus assumption); (focus assumption); (focus decide)) | ((with_reducible apply w_methGo); (focus ((repeat (first | with_reducible exact upd_same | (with_reducible refine hg_new (by assumption) ?_) | (with_reducible refine hg_ne (by first | assumption | exact Ne.symm (by assumption) | exact ne_of_none (by assumption) (by assumption) | exact Ne.symm (ne_of_none (by assumption) (by assumption))) ?_))); first | done | assumption | exact upd_same)); (focus first | exact lk_no (by decide +kernel) | rfl | (simp [List.lookup]; done))) | ((with_reducible apply w_xfGo); (focus ((repeat (first | with_reducible exact upd_same | (with_reducible refine hg_new (by assumption) ?_) | (with_reducible refine hg_ne (by first | assumption | exact Ne.symm (by assumption) | exact ne_of_none (by assumption) (by assumption) | exact Ne.symm (ne_of_none (by assumption) (by assumption))) ?_))); first | done | assumption | exact upd_same)); (focus (first | exact lk_one | (focus (simp [List.lookup]; done)) | rfl))) | ((with_reducible apply w_isi (r := true)); (focus (first | exact .base (.int _) | exact .base .non | exact .base (.bl _) | exact .base (.str _) | exact .base (.lst (by ((repeat (first | with_reducible exact upd_same | (with_reducible refine hg_new (by assumption) ?_) | (with_reducible refine hg_ne (by first | assumption | exact Ne.symm (by assumption) | exact ne_of_none (by assumption) (by assumption) | exact Ne.symm (ne_of_none (by assumption) (by assumption))) ?_))); first | done | assumption | exact upd_same))) | exact .base (.tup (by ((repeat (first | with_reducible exact upd_same | (with_reducible refine hg_new (by assumption) ?_) | (with_reducible refine hg_ne (by first | assumption | exact Ne.symm (by assumption) | exact ne_of_none (by assumption) (by assumption) | exact Ne.symm (ne_of_none (by assumption) (by assumption))) ?_))); first | done | assumption | exact upd_same))) | exact .base (.dK (by ((repeat (first | with_reducible exact upd_same | (with_reducible refine hg_new (by assumption) ?_) | (with_reducible refine hg_ne (by first | assumption | exact Ne.symm (by assumption) | exact ne_of_none (by assumption) (by assumption) | exact Ne.symm (ne_of_none (by assumption) (by assumption))) ?_))); first | done | assumption | exact upd_same))))); (focus decide +kernel)) | ((with_reducible apply w_isi (r := false)); (focus (first | exact .base (.int _) | exact .base .non | exact .base (.bl _) | exact .base (.str _) | exact .base (.lst (by ((repeat (first | with_reducible exact upd_same | (with_reducible refine hg_new (by assumption) ?_) | (with_reducible refine hg_ne (by first | assumption | exact Ne.symm (by assumption) | exact ne_of_none (by assumption) (by assumption) | exact Ne.symm (ne_of_none (by assumption) (by assumption))) ?_))); first | done | assumption | exact upd_same))) | exact .base (.tup (by ((repeat (first | with_reducible exact upd_same | (with_reducible refine hg_new (by assumption) ?_) | (with_reducible refine hg_ne (by first | assumption | exact Ne.symm (by assumption) | exact ne_of_none (by assumption) (by assumption) | exact Ne.symm (ne_of_none (by assumption) (by assumption))) ?_))); first | done | assumption | exact upd_same))) | exact .base (.dK (by ((repeat (first | with_reducible exact upd_same | (with_reducible refine hg_new (by assumption) ?_) | (with_reducible refine hg_ne (by first | assumption | exact Ne.symm (by assumption) | exact ne_of_none (by assumption) (by assumption) | exact Ne.symm (ne_of_none (by assumption) (by assumption))) ?_))); first | done | assumption | exact upd_same))))); (focus decide +kernel)) | ((with_reducible apply w_slL); (focus ((repeat (first | with_reducible exact upd_same | (with_reducible refine hg_new (by assumption) ?_) | (with_reducible refine hg_ne (by first | assumption | exact Ne.symm (by assumption) | exact ne_of_none (by assumption) (by assumption) | exact Ne.symm (ne_of_none (by assumption) (by assumption))) ?_))); first | done | assumption | exact upd_same))) | ((with_reducible apply w_itemGo); (focus ((repeat (first | with_reducible exact upd_same | (with_reducible refine hg_new (by assumption) ?_) | (with_reducible refine hg_ne (by first | assumption | exact Ne.symm (by assumption) | exact ne_of_none (by assumption) (by assumption) | exact Ne.symm (ne_of_none (by assumption) (by assumption))) ?_))); first | done | assumption | exact upd_same))) | ((with_reducible apply w_lenO); (focus ((repeat (first | with_reducible exact upd_same | (with_reducible refine hg_new (by assumption) ?_) | (with_reducible refine hg_ne (by first | assumption | exact Ne.symm (by assumption) | exact ne_of_none (by assumption) (by assumption) | exact Ne.symm (ne_of_none (by assumption) (by assumption))) ?_))); first | done | assumption | exact upd_same))) | ((with_reducible apply w_gtup); (focus ((repeat (first | with_reducible exact upd_same | (with_reducible refine hg_new (by assumption) ?_) | (with_reducible refine hg_ne (by first | assumption | exact Ne.symm (by assumption) | exact ne_of_none (by assumption) (by assumption) | exact Ne.symm (ne_of_none (by assumption) (by assumption))) ?_))); first | done | assumption | exact upd_same)); (focus rfl)) | ((with_reducible apply w_tyL); (focus ((repeat (first | with_reducible exact upd_same | (with_reducible refine hg_new (by assumption) ?_) | (with_reducible refine hg_ne (by first | assumption | exact Ne.symm (by assumption) | exact ne_of_none (by assumption) (by assumption) | exact Ne.symm (ne_of_none (by assumption) (by assumption))) ?_))); first | done | assumption | exact upd_same))) | ((with_reducible apply w_pop0); (focus ((repeat (first | with_reducible exact upd_same | (with_reducible refine hg_new (by assumption) ?_) | (with_reducible refine hg_ne (by first | assumption | exact Ne.symm (by assumption) | exact ne_of_none (by assumption) (by assumption) | exact Ne.symm (ne_of_none (by assumption) (by assumption))) ?_))); first | done | assumption | exact upd_same))) | ((with_reducible apply w_I); (focus first | (show CMul _ _; first | exact .inl ⟨by omega, by omega⟩ | exact .inr ⟨by omega, by omega⟩) | (show CPow _ _; exact ⟨by omega, by omega, by omega⟩) | (show CDivN _ _; exact ⟨by omega, by omega⟩) | omega)) | ((with_reducible refine w_lstGo ?_ ?_); (focus (show _ ≤ sizeLine; decide)); (intro _ _)) | ((with_reducible refine w_tupGo' ?_ ?_); (focus (show _ ≤ sizeLine; decide)); (intro _ _)) | ((with_reducible apply w_isiT ["list", "tuple"] (r := true)); (focus ((repeat (first | with_reducible exact upd_same | (with_reducible refine hg_new (by assumption) ?_) | (with_reducible refine hg_ne (by first | assumption | exact Ne.symm (by assumption) | exact ne_of_none (by assumption) (by assumption) | exact Ne.symm (ne_of_none (by assumption) (by assumption))) ?_))); first | done | assumption | exact upd_same)); (focus rfl); (focus (first | exact .base (.int _) | exact .base .non | exact .base (.bl _) | exact .base (.str _) | exact .base (.lst (by ((repeat (first | with_reducible exact upd_same | (with_reducible refine hg_new (by assumption) ?_) | (with_reducible refine hg_ne (by first | assumption | exact Ne.symm (by assumption) | exact ne_of_none (by assumption) (by assumption) | exact Ne.symm (ne_of_none (by assumption) (by assumption))) ?_))); first | done | assumption | exact upd_same))) | exact .base (.tup (by ((repeat (first | with_reducible exact upd_same | (with_reducible refine hg_new (by assumption) ?_) | (with_reducible refine hg_ne (by first | assumption | exact Ne.symm (by assumption) | exact ne_of_none (by assumption) (by assumption) | exact Ne.symm (ne_of_none (by assumption) (by assumption))) ?_))); first | done | assumption | exact upd_same))) | exact .base (.dK (by ((repeat (first | with_reducible exact upd_same | (with_reducible refine hg_new (by assumption) ?_) | (with_reducible refine hg_ne (by first | assumption | exact Ne.symm (by assumption) | exact ne_of_none (by assumption) (by assumption) | exact Ne.symm (ne_of_none (by assumption) (by assumption))) ?_))); first | done | assumption | exact upd_same))))); (focus decide +kernel)) | ((with_reducible apply w_isiT ["list", "tuple"] (r := false)); (focus ((repeat (first | with_reducible exact upd_same | (with_reducible refine hg_new (by assumption) ?_) | (with_reducible refine hg_ne (by first | assumption | exact Ne.symm (by assumption) | exact ne_of_none (by assumption) (by assumption) | exact Ne.symm (ne_of_none (by assumption) (by assumption))) ?_))); first | done | assumption | exact upd_same)); (focus rfl); (focus (first | exact .base (.int _) | exact .base .non | exact .base (.bl _) | exact .base (.str _) | exact .base (.lst (by ((repeat (first | with_reducible exact upd_same | (with_reducible refine hg_new (by assumption) ?_) | (with_reducible refine hg_ne (by first | assumption | exact Ne.symm (by assumption) | exact ne_of_none (by assumption) (by assumption) | exact Ne.symm (ne_of_none (by assumption) (by assumption))) ?_))); first | done | assumption | exact upd_same))) | exact .base (.tup (by ((repeat (first | with_reducible exact upd_same | (with_reducible refine hg_new (by assumption) ?_) | (with_reducible refine hg_ne (by first | assumption | exact Ne.symm (by assumption) | exact ne_of_none (by assumption) (by assumption) | exact Ne.symm (ne_of_none (by assumption) (by assumption))) ?_))); first | done | assumption | exact upd_same))) | exact .base (.dK (by ((repeat (first | with_reducible exact upd_same | (with_reducible refine hg_new (by assumption) ?_) | (with_reducible refine hg_ne (by first | assumption | exact Ne.symm (by assumption) | exact ne_of_none (by assumption) (by assumption) | exact Ne.symm (ne_of_none (by assumption) (by assumption))) ?_))); first | done | assumption | exact upd_same))))); (focus decide +kernel)) | ((with_reducible apply w_isiT ["bool", "int", "list", "tuple", "dict"] (r := true)); (focus ((repeat (first | with_reducible exact upd_same | (with_reducible refine hg_new (by assumption) ?_) | (with_reducible refine hg_ne (by first | assumption | exact Ne.symm (by assumption) | exact ne_of_none (by assumption) (by assumption) | exact Ne.symm (ne_of_none (by assumption) (by assumption))) ?_))); first | done | assumption | exact upd_same)); (focus rfl); (focus (first | exact .base (.int _) | exact .base .non | exact .base (.bl _) | exact .base (.str _) | exact .base (.lst (by ((repeat (first | with_reducible exact upd_same | (with_reducible refine hg_new (by assumption) ?_) | (with_reducible refine hg_ne (by first | assumption | exact Ne.symm (by assumption) | exact ne_of_none (by assumption) (by assumption) | exact Ne.symm (ne_of_none (by assumption) (by assumption))) ?_))); first | done | assumption | exact upd_same))) | exact .base (.tup (by ((repeat (first | with_reducible exact upd_same | (with_reducible refine hg_new (by assumption) ?_) | (with_reducible refine hg_ne (by first | assumption | exact Ne.symm (by assumption) | exact ne_of_none (by assumption) (by assumption) | exact Ne.symm (ne_of_none (by assumption) (by assumption))) ?_))); first | done | assumption | exact upd_same))) | exact .base (.dK (by ((repeat (first | with_reducible exact upd_same | (with_reducible refine hg_new (by assumption) ?_) | (with_reducible refine hg_ne (by first | assumption | exact Ne.symm (by assumption) | exact ne_of_none (by assumption) (by assumption) | exact Ne.symm (ne_of_none (by assumption) (by assumption))) ?_))); first | done | assumption | exact upd_same))))); (focus decide +kernel)) | ((with_reducible apply w_isiT ["bool", "int", "list", "tuple", "dict"] (r := false)); (focus ((repeat (first | with_reducible exact upd_same | (with_reducible refine hg_new (by assumption) ?_) | (with_reducible refine hg_ne (by first | assumption | exact Ne.symm (by assumption) | exact ne_of_none (by assumption) (by assumption) | exact Ne.symm (ne_of_none (by assumption) (by assumption))) ?_))); first | done | assumption | exact upd_same)); (focus rfl); (focus (first | exact .base (.int _) | exact .base .non | exact .base (.bl _) | exact .base (.str _) | exact .base (.lst (by ((repeat (first | with_reducible exact upd_same | (with_reducible refine hg_new (by assumption) ?_) | (with_reducible refine hg_ne (by first | assumption | exact Ne.symm (by assumption) | exact ne_of_none (by assumption) (by assumption) | exact Ne.symm (ne_of_none (by assumption) (by assumption))) ?_))); first | done | assumption | exact upd_same))) | exact .base (.tup (by ((repeat (first | with_reducible exact upd_same | (with_reducible refine hg_new (by assumption) ?_) | (with_reducible refine hg_ne (by first | assumption | exact Ne.symm (by assumption) | exact ne_of_none (by assumption) (by assumption) | exact Ne.symm (ne_of_none (by assumption) (by assumption))) ?_))); first | done | assumption | exact upd_same))) | exact .base (.dK (by ((repeat (first | with_reducible exact upd_same | (with_reducible refine hg_new (by assumption) ?_) | (with_reducible refine hg_ne (by first | assumption | exact Ne.symm (by assumption) | exact ne_of_none (by assumption) (by assumption) | exact Ne.symm (ne_of_none (by assumption) (by assumption))) ?_))); first | done | assumption | exact upd_same))))); (focus decide +kernel)))))
local macro_rules | `(tactic| and_intros) => `(tactic| ((repeat (first | with_reducible exact upd_same | (with_reducible refine hg_new (by assumption) ?_) | (with_reducible refine hg_ne (by first | assumption | exact Ne.symm (by assumption) | exact ne_of_none (by assumption) (by assumption) | exact Ne.symm (ne_of_none (by assumption) (by assumption))) ?_))); first | done | assumption | exact upd_same))
local macro_rules | `(tactic| ac_rfl) => `(tactic| (repeat (first | with_reducible exact Same.refl _ | (with_reducible refine Same.trans ?_ (Same.new (by assumption))))))

def isOct (x : Int) : Prop := 0 ≤ x ∧ x < 256
theorem octs_of {xs : List V} (h : ∀ x ∈ xs, octV x = true) : ∃ ns : List Int, xs = ns.map V.int ∧ ∀ n ∈ ns, isOct n := by
  induction xs with
  | nil => exact ⟨[], rfl, by simp⟩
  | cons x r ih =>
    obtain ⟨ns, e, hn⟩ := ih fun y hy => h y (List.mem_cons_of_mem _ hy)
    have hx := h x (List.mem_cons_self ..)
    cases x with
    | int i =>
      have hi : 0 ≤ i ∧ i ≤ 255 := of_decide_eq_true hx
      refine ⟨i :: ns, by rw [e]; rfl, fun n hn' => ?_⟩
      rcases List.mem_cons.mp hn' with rfl | hn'
      · exact ⟨hi.1, by omega⟩
      · exact hn n hn'
    | _ => cases hx
/-- Memory(x) -/
def spMem (C CB : Addr) : Sp := fun vs H Q E => ∃ (p dx : Addr) (x : V), vs = [.ref p, x] ∧ H p = some (.ins C dx []) ∧
  ((∃ n : Nat, x = .int n ∧ n ≤ 1000 ∧ ∀ (l : Addr) (H' : Hp), H l = none → MemAt H' C p l (List.replicate n 0) → (∀ b o, b ≠ p → H b = some o → H' b = some o) → Q .non H') ∨
   (∃ (a : Addr) (xs : List V), x = .ref a ∧ a ≠ p ∧ SeqAt2 H a xs ∧ ErrAt CB H xs E ∧ ∀ ns : List Int, xs = ns.map V.int → (∀ n ∈ ns, isOct n) → ∀ (l : Addr) (H' : Hp), H l = none → MemAt H' C p l ns → (∀ b o, b ≠ p → H b = some o → H' b = some o) → Q .non H'))
section
variable {P : Program} {w : World} {K : PySem.W.Frag} {mg : Str → Option Value} {base : Heap}
theorem ok_mem {f C CB : Addr} {fd : FuncData} (F : Fun K "__init__" "Memory.__init__" s_Memory___init__ f fd) (T : Txt K mg) (c_Memory : Cls K C) (n_cells : NoAttr K C "cells") (D_is_whole : CallOk P w K mg base "is_whole" 1 spWhole) (D_checked_octets : CallOk P w K mg base "checked_octets" 5 (spChk CB)) : FnOk P w K mg base (L2.CX P w) 7 f fd P_Memory___init__ (spMem C CB) := by
  refine F.okX sc_Memory___init__ (fun vs H Q E h => ?_) (fun cdv A outer s H vs Q E hr h => ?_)
  · obtain ⟨_, _, _, rfl, _⟩ := h
    rfl
  · obtain ⟨p, dx, x, rfl, hp, h⟩ := h
    refine ⟨_, (pss_one (ps_if (pt_val (pe_callD D_is_whole (hr.mono (by decide)) (by rfl) (pa_cons (pv 1) pa_nil))) (pss_one (ps_fld (pv 0) (pe_op op_rep (pe_lst (pa_cons pe_int pa_nil)) (pv 1)) rfl)) (pss_one (ps_fld (pv 0) (pe_callW (takes_of rfl rfl rfl rfl) D_checked_octets (hr.mono (by decide)) (by rfl) (pa_cons (pv 1) pa_nil)) rfl)))), ?_⟩
    rcases h with ⟨n, rfl, hn, k⟩ | ⟨a, xs, rfl, hap, ⟨hs, pl⟩, er, k⟩
    · left
      refine ⟨_, _, rfl, .int _, ?_⟩
      simp only [wholeV]
      left
      refine ⟨by show 1 ≤ sizeLine; decide, fun q hq => ?_⟩
      left
      refine ⟨q, _, [.int 0], rfl, rfl, upd_same, by omega, by omega, ?_, fun l hl => ?_⟩
      · exact Nat.le_trans (show 1 * ((n : Int)).toNat ≤ 1000 by omega) (by decide)
      · have hqH : H l = none := by
          by_cases e : l = q
          · rw [e]; exact hq
          · rw [upd_ne e] at hl; exact hl
        have hpq : p ≠ q := ne_of_none hp hq
        have hne : p ≠ l := ne_of_none hp hqH
        have hql : q ≠ l := ne_of_none upd_same hl
        have e2 : (List.replicate ((n : Int)).toNat [V.int 0]).flatten = (List.replicate n (0 : Int)).map V.int := by
          rw [Int.toNat_natCast]
          clear hn k
          induction n with
          | zero => rfl
          | succ n ih => rw [List.replicate_succ, List.flatten_cons, ih]; rfl
        rw [e2]
        left
        exact k l _ hqH ⟨hne, dx, upd_same, hg_ne (Ne.symm hne) upd_same⟩ fun b o b1 hb => hg_ne b1 (hg_ne (ne_of_none hb hqH) (hg_ne (ne_of_none hb hq) hb))
    · left
      obtain ⟨tt, hpl⟩ : ∃ tt, Pl H (.ref a) tt := by
        rcases hs with hs | hs
        · exact ⟨_, .lst hs⟩
        · exact ⟨_, .tup hs⟩
      refine ⟨_, _, rfl, hpl, ?_⟩
      simp only [wholeV]
      left
      refine ⟨a, xs, rfl, ⟨hs, pl⟩, ?_, fun hx l hl => ?_⟩
      · intro i x hi hx hj d H' hd sm he
        exact er i x hi hx hj d H' hd sm he
      · obtain ⟨ns, e, hn⟩ := octs_of hx
        have hne : p ≠ l := ne_of_none hp hl
        left
        refine k ns e hn l _ hl ⟨hne, dx, upd_same, ?_⟩ fun b o b1 hb => hg_ne b1 (hg_ne (ne_of_none hb hl) hb)
        rw [← e]
        exact hg_ne (Ne.symm hne) upd_same
def spLen (C : Addr) : Sp := fun vs H Q _ => ∃ (p l : Addr) (xs : List Int), vs = [.ref p] ∧ MemAt H C p l xs ∧ Q (.int xs.length) H
theorem ok_len {f C : Addr} {fd : FuncData} (F : Fun K "__len__" "Memory.__len__" s_Memory___len__ f fd) (T : Txt K mg) (c_Memory : Cls K C) (n_cells : NoAttr K C "cells") : FnOk P w K mg base CX0 1 f fd P_Memory___len__ (spLen C) := by
  refine F.ok sc_Memory___len__ (fun vs H Q E h => ?_) (fun cdv A outer s H vs Q E hr h => ?_)
  · obtain ⟨_, _, _, rfl, _⟩ := h
    rfl
  · obtain ⟨p, l, xs, rfl, ⟨hpl, dx, hp, hl⟩, k⟩ := h
    refine ⟨_, (pss_one (ps_ret (pe_callB (len_k (K := K) rfl) (by rfl) T.z_len PySem.boot_len (pa_cons (fld_k (K := K) rfl (pv 0) rfl) pa_nil)))), ?_⟩
    left
    rw [List.length_map]
    exact k
def spGet (C CA : Addr) : Sp := fun vs H Q E => ∃ (p l : Addr) (xs : List Int) (x : V) (t : String), vs = [.ref p, x] ∧ MemAt H C p l xs ∧ Pl H x t ∧ (adrV xs.length x = false → ∀ d H', H d = none → Same H H' → H' d = some (.xd [("octet", x)]) → E (.ref CA) (some d) H') ∧ (∀ (i : Nat) y, x = .int i → xs[i]? = some y → Q (.int y) H)
theorem ok_get {f C CA : Addr} {fd : FuncData} (F : Fun K "__getitem__" "Memory.__getitem__" s_Memory___getitem__ f fd) (T : Txt K mg) (c_Memory : Cls K C) (n_cells : NoAttr K C "cells") (D_is_address : CallOk P w K mg base "is_address" 3 spAddr) (E_BadAddress : ErrOk P w K mg base "BadAddress" CA "octet") : FnOk P w K mg base (L2.CX P w) 5 f fd P_Memory___getitem__ (spGet C CA) := by
  refine F.okX sc_Memory___getitem__ (fun vs H Q E h => ?_) (fun cdv A outer s H vs Q E hr h => ?_)
  · obtain ⟨_, _, _, _, _, rfl, _⟩ := h
    rfl
  · obtain ⟨p, l, xs, x, t, rfl, ⟨hpl, dx, hp, hl⟩, plx, k1, k2⟩ := h
    refine ⟨_, (pss_cons (ps_if (pt_not (pt_val (pe_callD D_is_address (hr.mono (by decide)) (by rfl) (pa_cons (pv 1) (pa_cons (pe_callB (len_k (K := K) rfl) (by rfl) T.z_len PySem.boot_len (pa_cons (fld_k (K := K) rfl (pv 0) rfl) pa_nil)) pa_nil))))) (pss_one (ps_raise rfl (takes_of rfl rfl rfl rfl) (pmk_err E_BadAddress (hr.mono (by decide)) (by rfl) (pa_cons (pv 1) pa_nil)))) pss_nil)
      (pss_one (ps_ret (pe_ix (ixL_k (K := K) rfl) (fld_k (K := K) rfl (pv 0) rfl) (pv 1) (fun _ _ => rfl))))), ?_⟩
    left
    rw [List.length_map]
    refine ⟨x, t, _, rfl, plx, ?_⟩
    cases ea : adrV xs.length x with
    | false =>
      left
      exact w_errGo (k1 ea)
    | true =>
      cases x with
      | int i =>
        have hi : 0 ≤ i ∧ i < xs.length := of_decide_eq_true ea
        obtain ⟨j, rfl⟩ := Int.eq_ofNat_of_zero_le hi.1
        have hj : xs[j]? = some xs[j] := List.getElem?_eq_getElem (by omega)
        left
        refine ⟨l, _, _, _, rfl, rfl, SqL.of hl, atI_nat (by rw [List.getElem?_map, hj]; rfl), ?_⟩
        exact k2 j _ rfl hj
      | _ => cases ea
/-- octets(): a new list -/
def spOctsM (C : Addr) : Sp := fun vs H Q _ => ∃ (p l : Addr) (xs : List Int), vs = [.ref p] ∧ MemAt H C p l xs ∧ ∀ q, H q = none → Q (.ref q) (upd H q (.lst (xs.map V.int)))
theorem ok_octsM {f C : Addr} {fd : FuncData} (F : Fun K "octets" "Memory.octets" s_Memory_octets f fd) (T : Txt K mg) (c_Memory : Cls K C) (n_cells : NoAttr K C "cells") : FnOk P w K mg base CX0 1 f fd P_Memory_octets (spOctsM C) := by
  refine F.ok sc_Memory_octets (fun vs H Q E h => ?_) (fun cdv A outer s H vs Q E hr h => ?_)
  · obtain ⟨_, _, _, rfl, _⟩ := h
    rfl
  · obtain ⟨p, l, xs, rfl, ⟨hpl, dx, hp, hl⟩, k⟩ := h
    refine ⟨_, (pss_one (ps_ret (pe_callTy (list_k (K := K) rfl) (by rfl) T.z_list (by decide +kernel) (pa_cons (fld_k (K := K) rfl (pv 0) rfl) pa_nil)))), ?_⟩
    left
    exact k
end

local macro_rules | `(tactic| left) => `(tactic| (repeat (first | with_reducible refine w_seq ?_ | with_reducible refine w_next ?_ | with_reducible refine w_asg ?_ | with_reducible refine w_drop ?_ | with_reducible refine w_ret ?_ | with_reducible refine w_if ?_ | with_reducible refine w_name ?_ | with_reducible refine w_sub ?_ | with_reducible refine w_c ?_ | with_reducible refine w_op ?_ | with_reducible refine w_un ?_ | with_reducible refine w_U ?_ | with_reducible refine w_I0 ?_ | with_reducible refine w_test ?_ | with_reducible refine w_B ?_ | with_reducible refine w_bl ?_ | with_reducible refine w_not ?_ | with_reducible refine w_and ?_ | with_reducible refine w_or ?_ | with_reducible refine w_ifE ?_ | with_reducible refine w_andV ?_ | with_reducible refine w_orV ?_ | with_reducible refine w_notV ?_ | with_reducible refine w_chain ?_ | with_reducible refine w_nil ?_ | with_reducible refine w_cons ?_ | with_reducible refine w_lst ?_ | with_reducible refine w_tup ?_ | with_reducible refine w_cb ?_ | with_reducible refine w_bm ?_ | with_reducible refine w_call ?_ | with_reducible refine w_int1 ?_ | with_reducible refine w_max ?_ | with_reducible refine w_min ?_ | with_reducible refine w_lc ?_ | with_reducible refine w_for ?_ | with_reducible refine w_rng1 ?_ | with_reducible refine w_listI ?_ | with_reducible refine w_tupI ?_ | with_reducible refine w_zipI ?_ | with_reducible refine w_yes ?_ | with_reducible refine w_turn ?_ | with_reducible refine iteT ?_ | with_reducible refine iteF ?_ | with_reducible refine w_gcons ?_ | with_reducible refine w_gnil ?_ | with_reducible refine w_fld ?_ | with_reducible refine w_sfld ?_ | with_reducible refine w_make ?_ | with_reducible refine w_meth ?_ | with_reducible refine w_gsl ?_ | with_reducible refine w_err ?_ | with_reducible refine w_sl ?_ | with_reducible refine w_part ?_ | with_reducible refine w_nopart ?_ | with_reducible refine w_partGo ?_ | with_reducible refine w_methW ?_ | with_reducible refine w_xf ?_ | with_reducible refine w_isB ?_ | with_reducible refine w_iteSame ?_ | with_reducible refine w_iteNSame ?_ | with_reducible refine w_iteNT ?_ | with_reducible refine w_iteNF ?_ | with_reducible refine w_ipI ?_ | with_reducible refine w_isN ?_ | with_reducible refine w_notN ?_ | with_reducible refine w_iteIntNon ?_ | with_reducible refine w_iteNIntNon ?_ | with_reducible refine w_iteNonInt ?_ | with_reducible refine w_par ?_ | with_reducible refine w_par3 ?_ | with_reducible refine w_parGo ?_ | with_reducible refine w_parGo3 ?_ | with_reducible refine w_makeW ?_ | with_reducible refine w_callS ?_ | with_reducible refine w_prop ?_ | with_reducible refine w_item ?_ | with_reducible refine w_gitem ?_ | ((with_reducible apply w_var); (focus rfl)) | ((with_reducible apply w_aug); (focus rfl)) | ((with_reducible refine w_iteStrNe ?_ ?_); (focus decide +kernel)) | ((with_reducible refine w_iteNStrNe ?_ ?_); (focus decide +kernel)) | ((with_reducible refine w_eq ?_ ?_); (focus rfl)) | ((with_reducible refine w_ne ?_ ?_); (focus rfl)) | ((with_reducible apply w_ixL); (focus ((repeat (first | with_reducible exact upd_same | (with_reducible refine hg_new (by assumption) ?_) | (with_reducible refine hg_ne (by first | assumption | exact Ne.symm (by assumption) | exact ne_of_none (by assumption) (by assumption) | exact Ne.symm (ne_of_none (by assumption) (by assumption))) ?_))); first | done | assumption | exact upd_same)); (focus rfl)) | ((with_reducible apply w_ixT); (focus ((repeat (first | with_reducible exact upd_same | (with_reducible refine hg_new (by assumption) ?_) | (with_reducible refine hg_ne (by first | assumption | exact Ne.symm (by assumption) | exact ne_of_none (by assumption) (by assumption) | exact Ne.symm (ne_of_none (by assumption) (by assumption))) ?_))); first | done | assumption | exact upd_same)); (focus rfl)) | ((with_reducible apply w_setL); (focus ((repeat (first | with_reducible exact upd_same | (with_reducible refine hg_new (by assumption) ?_) | (with_reducible refine hg_ne (by first | assumption | exact Ne.symm (by assumption) | exact ne_of_none (by assumption) (by assumption) | exact Ne.symm (ne_of_none (by assumption) (by assumption))) ?_))); first | done | assumption | exact upd_same)); (focus rfl)) | ((with_reducible apply w_len); (focus ((repeat (first | with_reducible exact upd_same | (with_reducible refine hg_new (by assumption) ?_) | (with_reducible refine hg_ne (by first | assumption | exact Ne.symm (by assumption) | exact ne_of_none (by assumption) (by assumption) | exact Ne.symm (ne_of_none (by assumption) (by assumption))) ?_))); first | done | assumption | exact upd_same))) | ((with_reducible apply w_lenT); (focus ((repeat (first | with_reducible exact upd_same | (with_reducible refine hg_new (by assumption) ?_) | (with_reducible refine hg_ne (by first | assumption | exact Ne.symm (by assumption) | exact ne_of_none (by assumption) (by assumption) | exact Ne.symm (ne_of_none (by assumption) (by assumption))) ?_))); first | done | assumption | exact upd_same))) | ((with_reducible apply w_list); (focus ((repeat (first | with_reducible exact upd_same | (with_reducible refine hg_new (by assumption) ?_) | (with_reducible refine hg_ne (by first | assumption | exact Ne.symm (by assumption) | exact ne_of_none (by assumption) (by assumption) | exact Ne.symm (ne_of_none (by assumption) (by assumption))) ?_))); first | done | assumption | exact upd_same))) | ((with_reducible apply w_fldGo); (focus ((repeat (first | with_reducible exact upd_same | (with_reducible refine hg_new (by assumption) ?_) | (with_reducible refine hg_ne (by first | assumption | exact Ne.symm (by assumption) | exact ne_of_none (by assumption) (by assumption) | exact Ne.symm (ne_of_none (by assumption) (by assumption))) ?_))); first | done | assumption | exact upd_same)); (focus assumption); (focus assumption); (focus (first | exact lk_one | (focus (simp [List.lookup]; done)) | rfl))) | ((with_reducible apply w_sfldGo); (focus ((repeat (first | with_reducible exact upd_same | (with_reducible refine hg_new (by assumption) ?_) | (with_reducible refine hg_ne (by first | assumption | exact Ne.symm (by assumption) | exact ne_of_none (by assumption) (by assumption) | exact Ne.symm (ne_of_none (by assumption) (by assumption))) ?_))); first | done | assumption | exact upd_same)); (focus assumption); (focus assumption); (focus decide)) | ((with_reducible apply w_methGo); (focus ((repeat (first | with_reducible exact upd_same | (with_reducible refine hg_new (by assumption) ?_) | (with_reducible refine hg_ne (by first | assumption | exact Ne.symm (by assumption) | exact ne_of_none (by assumption) (by assumption) | exact Ne.symm (ne_of_none (by assumption) (by assumption))) ?_))); first | done | assumption | exact upd_same)); (focus first | exact lk_no (by decide +kernel) | rfl | (simp [List.lookup]; done))) | ((with_reducible apply w_xfGo); (focus ((repeat (first | with_reducible exact upd_same | (with_reducible refine hg_new (by assumption) ?_) | (with_reducible refine hg_ne (by first | assumption | exact Ne.symm (by assumption) | exact ne_of_none (by assumption) (by assumption) | exact Ne.symm (ne_of_none (by assumption) (by assumption))) ?_))); first | done | assumption | exact upd_same)); (focus (first | exact lk_one | (focus (simp [List.lookup]; done)) | rfl))) | ((with_reducible apply w_isi (r := true)); (focus (first | exact .base (.int _) | exact .base .non | exact .base (.bl _) | exact .base (.str _) | exact .base (.lst (by ((repeat (first | with_reducible exact upd_same | (with_reducible refine hg_new (by assumption) ?_) | (with_reducible refine hg_ne (by first | assumption | exact Ne.symm (by assumption) | exact ne_of_none (by assumption) (by assumption) | exact Ne.symm (ne_of_none (by assumption) (by assumption))) ?_))); first | done | assumption | exact upd_same))) | exact .base (.tup (by ((repeat (first | with_reducible exact upd_same | (with_reducible refine hg_new (by assumption) ?_) | (with_reducible refine hg_ne (by first | assumption | exact Ne.symm (by assumption) | exact ne_of_none (by assumption) (by assumption) | exact Ne.symm (ne_of_none (by assumption) (by assumption))) ?_))); first | done | assumption | exact upd_same))) | exact .base (.dK (by ((repeat (first | with_reducible exact upd_same | (with_reducible refine hg_new (by assumption) ?_) | (with_reducible refine hg_ne (by first | assumption | exact Ne.symm (by assumption) | exact ne_of_none (by assumption) (by assumption) | exact Ne.symm (ne_of_none (by assumption) (by assumption))) ?_))); first | done | assumption | exact upd_same))))); (focus decide +kernel)) | ((with_reducible apply w_isi (r := false)); (focus (first | exact .base (.int _) | exact .base .non | exact .base (.bl _) | exact .base (.str _) | exact .base (.lst (by ((repeat (first | with_reducible exact upd_same | (with_reducible refine hg_new (by assumption) ?_) | (with_reducible refine hg_ne (by first | assumption | exact Ne.symm (by assumption) | exact ne_of_none (by assumption) (by assumption) | exact Ne.symm (ne_of_none (by assumption) (by assumption))) ?_))); first | done | assumption | exact upd_same))) | exact .base (.tup (by ((repeat (first | with_reducible exact upd_same | (with_reducible refine hg_new (by assumption) ?_) | (with_reducible refine hg_ne (by first | assumption | exact Ne.symm (by assumption) | exact ne_of_none (by assumption) (by assumption) | exact Ne.symm (ne_of_none (by assumption) (by assumption))) ?_))); first | done | assumption | exact upd_same))) | exact .base (.dK (by ((repeat (first | with_reducible exact upd_same | (with_reducible refine hg_new (by assumption) ?_) | (with_reducible refine hg_ne (by first | assumption | exact Ne.symm (by assumption) | exact ne_of_none (by assumption) (by assumption) | exact Ne.symm (ne_of_none (by assumption) (by assumption))) ?_))); first | done | assumption | exact upd_same))))); (focus decide +kernel)) | ((with_reducible apply w_slL); (focus ((repeat (first | with_reducible exact upd_same | (with_reducible refine hg_new (by assumption) ?_) | (with_reducible refine hg_ne (by first | assumption | exact Ne.symm (by assumption) | exact ne_of_none (by assumption) (by assumption) | exact Ne.symm (ne_of_none (by assumption) (by assumption))) ?_))); first | done | assumption | exact upd_same))) | ((with_reducible apply w_itemGo); (focus ((repeat (first | with_reducible exact upd_same | (with_reducible refine hg_new (by assumption) ?_) | (with_reducible refine hg_ne (by first | assumption | exact Ne.symm (by assumption) | exact ne_of_none (by assumption) (by assumption) | exact Ne.symm (ne_of_none (by assumption) (by assumption))) ?_))); first | done | assumption | exact upd_same))) | ((with_reducible apply w_lenO); (focus ((repeat (first | with_reducible exact upd_same | (with_reducible refine hg_new (by assumption) ?_) | (with_reducible refine hg_ne (by first | assumption | exact Ne.symm (by assumption) | exact ne_of_none (by assumption) (by assumption) | exact Ne.symm (ne_of_none (by assumption) (by assumption))) ?_))); first | done | assumption | exact upd_same))) | ((with_reducible apply w_gtup); (focus ((repeat (first | with_reducible exact upd_same | (with_reducible refine hg_new (by assumption) ?_) | (with_reducible refine hg_ne (by first | assumption | exact Ne.symm (by assumption) | exact ne_of_none (by assumption) (by assumption) | exact Ne.symm (ne_of_none (by assumption) (by assumption))) ?_))); first | done | assumption | exact upd_same)); (focus rfl)) | ((with_reducible apply w_tyL); (focus ((repeat (first | with_reducible exact upd_same | (with_reducible refine hg_new (by assumption) ?_) | (with_reducible refine hg_ne (by first | assumption | exact Ne.symm (by assumption) | exact ne_of_none (by assumption) (by assumption) | exact Ne.symm (ne_of_none (by assumption) (by assumption))) ?_))); first | done | assumption | exact upd_same))) | ((with_reducible apply w_pop0); (focus ((repeat (first | with_reducible exact upd_same | (with_reducible refine hg_new (by assumption) ?_) | (with_reducible refine hg_ne (by first | assumption | exact Ne.symm (by assumption) | exact ne_of_none (by assumption) (by assumption) | exact Ne.symm (ne_of_none (by assumption) (by assumption))) ?_))); first | done | assumption | exact upd_same))) | ((with_reducible apply w_I); (focus first | (show CMul _ _; first | exact .inl ⟨by omega, by omega⟩ | exact .inr ⟨by omega, by omega⟩) | (show CPow _ _; exact ⟨by omega, by omega, by omega⟩) | (show CDivN _ _; exact ⟨by omega, by omega⟩) | omega)))))
local macro_rules | `(tactic| right) => `(tactic| (repeat (first | with_reducible refine w_seq ?_ | with_reducible refine w_next ?_ | with_reducible refine w_asg ?_ | with_reducible refine w_drop ?_ | with_reducible refine w_ret ?_ | with_reducible refine w_if ?_ | with_reducible refine w_name ?_ | with_reducible refine w_sub ?_ | with_reducible refine w_c ?_ | with_reducible refine w_op ?_ | with_reducible refine w_un ?_ | with_reducible refine w_U ?_ | with_reducible refine w_I0 ?_ | with_reducible refine w_test ?_ | with_reducible refine w_B ?_ | with_reducible refine w_bl ?_ | with_reducible refine w_not ?_ | with_reducible refine w_and ?_ | with_reducible refine w_or ?_ | with_reducible refine w_ifE ?_ | with_reducible refine w_andV ?_ | with_reducible refine w_orV ?_ | with_reducible refine w_notV ?_ | with_reducible refine w_chain ?_ | with_reducible refine w_nil ?_ | with_reducible refine w_cons ?_ | with_reducible refine w_lst ?_ | with_reducible refine w_tup ?_ | with_reducible refine w_cb ?_ | with_reducible refine w_bm ?_ | with_reducible refine w_call ?_ | with_reducible refine w_int1 ?_ | with_reducible refine w_max ?_ | with_reducible refine w_min ?_ | with_reducible refine w_lc ?_ | with_reducible refine w_for ?_ | with_reducible refine w_rng1 ?_ | with_reducible refine w_listI ?_ | with_reducible refine w_tupI ?_ | with_reducible refine w_zipI ?_ | with_reducible refine w_yes ?_ | with_reducible refine w_turn ?_ | with_reducible refine iteT ?_ | with_reducible refine iteF ?_ | with_reducible refine w_gcons ?_ | with_reducible refine w_gnil ?_ | with_reducible refine w_fld ?_ | with_reducible refine w_sfld ?_ | with_reducible refine w_make ?_ | with_reducible refine w_meth ?_ | with_reducible refine w_gsl ?_ | with_reducible refine w_err ?_ | with_reducible refine w_sl ?_ | with_reducible refine w_part ?_ | with_reducible refine w_nopart ?_ | with_reducible refine w_partGo ?_ | with_reducible refine w_methW ?_ | with_reducible refine w_xf ?_ | with_reducible refine w_isB ?_ | with_reducible refine w_iteSame ?_ | with_reducible refine w_iteNSame ?_ | with_reducible refine w_iteNT ?_ | with_reducible refine w_iteNF ?_ | with_reducible refine w_ipI ?_ | with_reducible refine w_isN ?_ | with_reducible refine w_notN ?_ | with_reducible refine w_iteIntNon ?_ | with_reducible refine w_iteNIntNon ?_ | with_reducible refine w_iteNonInt ?_ | with_reducible refine w_par ?_ | with_reducible refine w_par3 ?_ | with_reducible refine w_parGo ?_ | with_reducible refine w_parGo3 ?_ | with_reducible refine w_makeW ?_ | with_reducible refine w_callS ?_ | with_reducible refine w_prop ?_ | with_reducible refine w_item ?_ | with_reducible refine w_gitem ?_ | ((with_reducible apply w_var); (focus rfl)) | ((with_reducible apply w_aug); (focus rfl)) | ((with_reducible refine w_iteStrNe ?_ ?_); (focus decide +kernel)) | ((with_reducible refine w_iteNStrNe ?_ ?_); (focus decide +kernel)) | ((with_reducible refine w_eq ?_ ?_); (focus rfl)) | ((with_reducible refine w_ne ?_ ?_); (focus rfl)) | ((with_reducible apply w_ixL); (focus ((repeat (first | with_reducible exact upd_same | (with_reducible refine hg_new (by assumption) ?_) | (with_reducible refine hg_ne (by first | assumption | exact Ne.symm (by assumption) | exact ne_of_none (by assumption) (by assumption) | exact Ne.symm (ne_of_none (by assumption) (by assumption))) ?_))); first | done | assumption | exact upd_same)); (focus rfl)) | ((with_reducible apply w_ixT); (focus ((repeat (first | with_reducible exact upd_same | (with_reducible refine hg_new (by assumption) ?_) | (with_reducible refine hg_ne (by first | assumption | exact Ne.symm (by assumption) | exact ne_of_none (by assumption) (by assumption) | exact Ne.symm (ne_of_none (by assumption) (by assumption))) ?_))); first | done | assumption | exact upd_same)); (focus rfl)) | ((with_reducible apply w_setL); (focus ((repeat (first | with_reducible exact upd_same | (with_reducible refine hg_new (by assumption) ?_) | (with_reducible refine hg_ne (by first | assumption | exact Ne.symm (by assumption) | exact ne_of_none (by assumption) (by assumption) | exact Ne.symm (ne_of_none (by assumption) (by assumption))) ?_))); first | done | assumption | exact upd_same)); (focus rfl)) | ((with_reducible apply w_len); (focus ((repeat (first | with_reducible exact upd_same | (with_reducible refine hg_new (by assumption) ?_) | (with_reducible refine hg_ne (by first | assumption | exact Ne.symm (by assumption) | exact ne_of_none (by assumption) (by assumption) | exact Ne.symm (ne_of_none (by assumption) (by assumption))) ?_))); first | done | assumption | exact upd_same))) | ((with_reducible apply w_lenT); (focus ((repeat (first | with_reducible exact upd_same | (with_reducible refine hg_new (by assumption) ?_) | (with_reducible refine hg_ne (by first | assumption | exact Ne.symm (by assumption) | exact ne_of_none (by assumption) (by assumption) | exact Ne.symm (ne_of_none (by assumption) (by assumption))) ?_))); first | done | assumption | exact upd_same))) | ((with_reducible apply w_list); (focus ((repeat (first | with_reducible exact upd_same | (with_reducible refine hg_new (by assumption) ?_) | (with_reducible refine hg_ne (by first | assumption | exact Ne.symm (by assumption) | exact ne_of_none (by assumption) (by assumption) | exact Ne.symm (ne_of_none (by assumption) (by assumption))) ?_))); first | done | assumption | exact upd_same))) | ((with_reducible apply w_fldGo); (focus ((repeat (first | with_reducible exact upd_same | (with_reducible refine hg_new (by assumption) ?_) | (with_reducible refine hg_ne (by first | assumption | exact Ne.symm (by assumption) | exact ne_of_none (by assumption) (by assumption) | exact Ne.symm (ne_of_none (by assumption) (by assumption))) ?_))); first | done | assumption | exact upd_same)); (focus assumption); (focus assumption); (focus (first | exact lk_one | (focus (simp [List.lookup]; done)) | rfl))) | ((with_reducible apply w_sfldGo); (focus ((repeat (first | with_reducible exact upd_same | (with_reducible refine hg_new (by assumption) ?_) | (with_reducible refine hg_ne (by first | assumption | exact Ne.symm (by assumption) | exact ne_of_none (by assumption) (by assumption) | exact Ne.symm (ne_of_none (by assumption) (by assumption))) ?_))); first | done | assumption | exact upd_same)); (focus assumption); (focus assumption); (focus decide)) | ((with_reducible apply w_methGo); (focus ((repeat (first | with_reducible exact upd_same | (with_reducible refine hg_new (by assumption) ?_) | (with_reducible refine hg_ne (by first | assumption | exact Ne.symm (by assumption) | exact ne_of_none (by assumption) (by assumption) | exact Ne.symm (ne_of_none (by assumption) (by assumption))) ?_))); first | done | assumption | exact upd_same)); (focus first | exact lk_no (by decide +kernel) | rfl | (simp [List.lookup]; done))) | ((with_reducible apply w_xfGo); (focus ((repeat (first | with_reducible exact upd_same | (with_reducible refine hg_new (by assumption) ?_) | (with_reducible refine hg_ne (by first | assumption | exact Ne.symm (by assumption) | exact ne_of_none (by assumption) (by assumption) | exact Ne.symm (ne_of_none (by assumption) (by assumption))) ?_))); first | done | assumption | exact upd_same)); (focus (first | exact lk_one | (focus (simp [List.lookup]; done)) | rfl))) | ((with_reducible apply w_isi (r := true)); (focus (first | exact .base (.int _) | exact .base .non | exact .base (.bl _) | exact .base (.str _) | exact .base (.lst (by ((repeat (first | with_reducible exact upd_same | (with_reducible refine hg_new (by assumption) ?_) | (with_reducible refine hg_ne (by first | assumption | exact Ne.symm (by assumption) | exact ne_of_none (by assumption) (by assumption) | exact Ne.symm (ne_of_none (by assumption) (by assumption))) ?_))); first | done | assumption | exact upd_same))) | exact .base (.tup (by ((repeat (first | with_reducible exact upd_same | (with_reducible refine hg_new (by assumption) ?_) | (with_reducible refine hg_ne (by first | assumption | exact Ne.symm (by assumption) | exact ne_of_none (by assumption) (by assumption) | exact Ne.symm (ne_of_none (by assumption) (by assumption))) ?_))); first | done | assumption | exact upd_same))) | exact .base (.dK (by ((repeat (first | with_reducible exact upd_same | (with_reducible refine hg_new (by assumption) ?_) | (with_reducible refine hg_ne (by first | assumption | exact Ne.symm (by assumption) | exact ne_of_none (by assumption) (by assumption) | exact Ne.symm (ne_of_none (by assumption) (by assumption))) ?_))); first | done | assumption | exact upd_same))))); (focus decide +kernel)) | ((with_reducible apply w_isi (r := false)); (focus (first | exact .base (.int _) | exact .base .non | exact .base (.bl _) | exact .base (.str _) | exact .base (.lst (by ((repeat (first | with_reducible exact upd_same | (with_reducible refine hg_new (by assumption) ?_) | (with_reducible refine hg_ne (by first | assumption | exact Ne.symm (by assumption) | exact ne_of_none (by assumption) (by assumption) | exact Ne.symm (ne_of_none (by assumption) (by assumption))) ?_))); first | done | assumption | exact upd_same))) | exact .base (.tup (by ((repeat (first | with_reducible exact upd_same | (with_reducible refine hg_new (by assumption) ?_) | (with_reducible refine hg_ne (by first | assumption | exact Ne.symm (by assumption) | exact ne_of_none (by assumption) (by assumption) | exact Ne.symm (ne_of_none (by assumption) (by assumption))) ?_))); first | done | assumption | exact upd_same))) | exact .base (.dK (by ((repeat (first | with_reducible exact upd_same | (with_reducible refine hg_new (by assumption) ?_) | (with_reducible refine hg_ne (by first | assumption | exact Ne.symm (by assumption) | exact ne_of_none (by assumption) (by assumption) | exact Ne.symm (ne_of_none (by assumption) (by assumption))) ?_))); first | done | assumption | exact upd_same))))); (focus decide +kernel)) | ((with_reducible apply w_slL); (focus ((repeat (first | with_reducible exact upd_same | (with_reducible refine hg_new (by assumption) ?_) | (with_reducible refine hg_ne (by first | assumption | exact Ne.symm (by assumption) | exact ne_of_none (by assumption) (by assumption) | exact Ne.symm (ne_of_none (by assumption) (by assumption))) ?_))); first | done | assumption | exact upd_same))) | ((with_reducible apply w_itemGo); (focus ((repeat (first | with_reducible exact upd_same | (with_reducible refine hg_new (by assumption) ?_) | (with_reducible refine hg_ne (by first | assumption | exact Ne.symm (by assumption) | exact ne_of_none (by assumption) (by assumption) | exact Ne.symm (ne_of_none (by assumption) (by assumption))) ?_))); first | done | assumption | exact upd_same))) | ((with_reducible apply w_lenO); (focus ((repeat (first | with_reducible exact upd_same | (with_reducible refine hg_new (by assumption) ?_) | (with_reducible refine hg_ne (by first | assumption | exact Ne.symm (by assumption) | exact ne_of_none (by assumption) (by assumption) | exact Ne.symm (ne_of_none (by assumption) (by assumption))) ?_))); first | done | assumption | exact upd_same))) | ((with_reducible apply w_gtup); (focus ((repeat (first | with_reducible exact upd_same | (with_reducible refine hg_new (by assumption) ?_) | (with_reducible refine hg_ne (by first | assumption | exact Ne.symm (by assumption) | exact ne_of_none (by assumption) (by assumption) | exact Ne.symm (ne_of_none (by assumption) (by assumption))) ?_))); first | done | assumption | exact upd_same)); (focus rfl)) | ((with_reducible apply w_tyL); (focus ((repeat (first | with_reducible exact upd_same | (with_reducible refine hg_new (by assumption) ?_) | (with_reducible refine hg_ne (by first | assumption | exact Ne.symm (by assumption) | exact ne_of_none (by assumption) (by assumption) | exact Ne.symm (ne_of_none (by assumption) (by assumption))) ?_))); first | done | assumption | exact upd_same))) | ((with_reducible apply w_pop0); (focus ((repeat (first | with_reducible exact upd_same | (with_reducible refine hg_new (by assumption) ?_) | (with_reducible refine hg_ne (by first | assumption | exact Ne.symm (by assumption) | exact ne_of_none (by assumption) (by assumption) | exact Ne.symm (ne_of_none (by assumption) (by assumption))) ?_))); first | done | assumption | exact upd_same))) | ((with_reducible apply w_I); (focus first | (show CMul _ _; first | exact .inl ⟨by omega, by omega⟩ | exact .inr ⟨by omega, by omega⟩) | (show CPow _ _; exact ⟨by omega, by omega, by omega⟩) | (show CDivN _ _; exact ⟨by omega, by omega⟩) | omega)) | ((with_reducible refine w_lstGo ?_ ?_); (focus (show _ ≤ sizeLine; decide)); (intro _ _)) | ((with_reducible refine w_tupGo' ?_ ?_); (focus (show _ ≤ sizeLine; decide)); (intro _ _)) | ((with_reducible apply w_isiT ["list", "tuple"] (r := true)); (focus ((repeat (first | with_reducible exact upd_same | (with_reducible refine hg_new (by assumption) ?_) | (with_reducible refine hg_ne (by first | assumption | exact Ne.symm (by assumption) | exact ne_of_none (by assumption) (by assumption) | exact Ne.symm (ne_of_none (by assumption) (by assumption))) ?_))); first | done | assumption | exact upd_same)); (focus rfl); (focus (first | exact .base (.int _) | exact .base .non | exact .base (.bl _) | exact .base (.str _) | exact .base (.lst (by ((repeat (first | with_reducible exact upd_same | (with_reducible refine hg_new (by assumption) ?_) | (with_reducible refine hg_ne (by first | assumption | exact Ne.symm (by assumption) | exact ne_of_none (by assumption) (by assumption) | exact Ne.symm (ne_of_none (by assumption) (by assumption))) ?_))); first | done | assumption | exact upd_same))) | exact .base (.tup (by ((repeat (first | with_reducible exact upd_same | (with_reducible refine hg_new (by assumption) ?_) | (with_reducible refine hg_ne (by first | assumption | exact Ne.symm (by assumption) | exact ne_of_none (by assumption) (by assumption) | exact Ne.symm (ne_of_none (by assumption) (by assumption))) ?_))); first | done | assumption | exact upd_same))) | exact .base (.dK (by ((repeat (first | with_reducible exact upd_same | (with_reducible refine hg_new (by assumption) ?_) | (with_reducible refine hg_ne (by first | assumption | exact Ne.symm (by assumption) | exact ne_of_none (by assumption) (by assumption) | exact Ne.symm (ne_of_none (by assumption) (by assumption))) ?_))); first | done | assumption | exact upd_same))))); (focus decide +kernel)) | ((with_reducible apply w_isiT ["list", "tuple"] (r := false)); (focus ((repeat (first | with_reducible exact upd_same | (with_reducible refine hg_new (by assumption) ?_) | (with_reducible refine hg_ne (by first | assumption | exact Ne.symm (by assumption) | exact ne_of_none (by assumption) (by assumption) | exact Ne.symm (ne_of_none (by assumption) (by assumption))) ?_))); first | done | assumption | exact upd_same)); (focus rfl); (focus (first | exact .base (.int _) | exact .base .non | exact .base (.bl _) | exact .base (.str _) | exact .base (.lst (by ((repeat (first | with_reducible exact upd_same | (with_reducible refine hg_new (by assumption) ?_) | (with_reducible refine hg_ne (by first | assumption | exact Ne.symm (by assumption) | exact ne_of_none (by assumption) (by assumption) | exact Ne.symm (ne_of_none (by assumption) (by assumption))) ?_))); first | done | assumption | exact upd_same))) | exact .base (.tup (by ((repeat (first | with_reducible exact upd_same | (with_reducible refine hg_new (by assumption) ?_) | (with_reducible refine hg_ne (by first | assumption | exact Ne.symm (by assumption) | exact ne_of_none (by assumption) (by assumption) | exact Ne.symm (ne_of_none (by assumption) (by assumption))) ?_))); first | done | assumption | exact upd_same))) | exact .base (.dK (by ((repeat (first | with_reducible exact upd_same | (with_reducible refine hg_new (by assumption) ?_) | (with_reducible refine hg_ne (by first | assumption | exact Ne.symm (by assumption) | exact ne_of_none (by assumption) (by assumption) | exact Ne.symm (ne_of_none (by assumption) (by assumption))) ?_))); first | done | assumption | exact upd_same))))); (focus decide +kernel)) | ((with_reducible apply w_isiT ["bool", "int", "list", "tuple", "dict"] (r := true)); (focus ((repeat (first | with_reducible exact upd_same | (with_reducible refine hg_new (by assumption) ?_) | (with_reducible refine hg_ne (by first | assumption | exact Ne.symm (by assumption) | exact ne_of_none (by assumption) (by assumption) | exact Ne.symm (ne_of_none (by assumption) (by assumption))) ?_))); first | done | assumption | exact upd_same)); (focus rfl); (focus (first | exact .base (.int _) | exact .base .non | exact .base (.bl _) | exact .base (.str _) | exact .base (.lst (by ((repeat (first | with_reducible exact upd_same | (with_reducible refine hg_new (by assumption) ?_) | (with_reducible refine hg_ne (by first | assumption | exact Ne.symm (by assumption) | exact ne_of_none (by assumption) (by assumption) | exact Ne.symm (ne_of_none (by assumption) (by assumption))) ?_))); first | done | assumption | exact upd_same))) | exact .base (.tup (by ((repeat (first | with_reducible exact upd_same | (with_reducible refine hg_new (by assumption) ?_) | (with_reducible refine hg_ne (by first | assumption | exact Ne.symm (by assumption) | exact ne_of_none (by assumption) (by assumption) | exact Ne.symm (ne_of_none (by assumption) (by assumption))) ?_))); first | done | assumption | exact upd_same))) | exact .base (.dK (by ((repeat (first | with_reducible exact upd_same | (with_reducible refine hg_new (by assumption) ?_) | (with_reducible refine hg_ne (by first | assumption | exact Ne.symm (by assumption) | exact ne_of_none (by assumption) (by assumption) | exact Ne.symm (ne_of_none (by assumption) (by assumption))) ?_))); first | done | assumption | exact upd_same))))); (focus decide +kernel)) | ((with_reducible apply w_isiT ["bool", "int", "list", "tuple", "dict"] (r := false)); (focus ((repeat (first | with_reducible exact upd_same | (with_reducible refine hg_new (by assumption) ?_) | (with_reducible refine hg_ne (by first | assumption | exact Ne.symm (by assumption) | exact ne_of_none (by assumption) (by assumption) | exact Ne.symm (ne_of_none (by assumption) (by assumption))) ?_))); first | done | assumption | exact upd_same)); (focus rfl); (focus (first | exact .base (.int _) | exact .base .non | exact .base (.bl _) | exact .base (.str _) | exact .base (.lst (by ((repeat (first | with_reducible exact upd_same | (with_reducible refine hg_new (by assumption) ?_) | (with_reducible refine hg_ne (by first | assumption | exact Ne.symm (by assumption) | exact ne_of_none (by assumption) (by assumption) | exact Ne.symm (ne_of_none (by assumption) (by assumption))) ?_))); first | done | assumption | exact upd_same))) | exact .base (.tup (by ((repeat (first | with_reducible exact upd_same | (with_reducible refine hg_new (by assumption) ?_) | (with_reducible refine hg_ne (by first | assumption | exact Ne.symm (by assumption) | exact ne_of_none (by assumption) (by assumption) | exact Ne.symm (ne_of_none (by assumption) (by assumption))) ?_))); first | done | assumption | exact upd_same))) | exact .base (.dK (by ((repeat (first | with_reducible exact upd_same | (with_reducible refine hg_new (by assumption) ?_) | (with_reducible refine hg_ne (by first | assumption | exact Ne.symm (by assumption) | exact ne_of_none (by assumption) (by assumption) | exact Ne.symm (ne_of_none (by assumption) (by assumption))) ?_))); first | done | assumption | exact upd_same))))); (focus decide +kernel)))))
local macro_rules | `(tactic| and_intros) => `(tactic| ((repeat (first | with_reducible exact upd_same | (with_reducible refine hg_new (by assumption) ?_) | (with_reducible refine hg_ne (by first | assumption | exact Ne.symm (by assumption) | exact ne_of_none (by assumption) (by assumption) | exact Ne.symm (ne_of_none (by assumption) (by assumption))) ?_))); first | done | assumption | exact upd_same))
local macro_rules | `(tactic| ac_rfl) => `(tactic| (repeat (first | with_reducible exact Same.refl _ | (with_reducible refine Same.trans ?_ (Same.new (by assumption))))))

section
variable {P : Program} {w : World} {K : PySem.W.Frag} {mg : Str → Option Value} {base : Heap}
theorem ixN_of {n i : Nat} (h : i < n) : ixN n (i : Int) = some i := by
  unfold ixN
  rw [if_pos (by omega), if_pos (by omega), Int.toNat_natCast]
/-- m[x] = y -/
def spSetI (C CA CB : Addr) : Sp := fun vs H Q E => ∃ (p l : Addr) (xs : List Int) (x y : V) (t u : String), vs = [.ref p, x, y] ∧ MemAt H C p l xs ∧ Pl H x t ∧ Pl H y u ∧
  (adrV xs.length x = false → ∀ d H', H d = none → Same H H' → H' d = some (.xd [("octet", x)]) → E (.ref CA) (some d) H') ∧
  (adrV xs.length x = true → octV y = false → ∀ d H', H d = none → Same H H' → H' d = some (.xd [("value", y)]) → E (.ref CB) (some d) H') ∧
  (∀ (i : Nat) (j : Int), x = .int i → y = .int j → i < xs.length → isOct j → ∀ H', MemAt H' C p l (xs.set i j) → (∀ b o, b ≠ l → H b = some o → H' b = some o) → Q .non H')
theorem set_int {xs : List Int} {i : Nat} {j : Int} : (xs.map V.int).set i (.int j) = (xs.set i j).map V.int := List.map_set.symm
theorem ok_setI {f C CA CB : Addr} {fd : FuncData} (F : Fun K "__setitem__" "Memory.__setitem__" s_Memory___setitem__ f fd) (T : Txt K mg) (c_Memory : Cls K C) (n_cells : NoAttr K C "cells") (D_is_address : CallOk P w K mg base "is_address" 3 spAddr) (D_is_octet : CallOk P w K mg base "is_octet" 3 spOctet) (E_BadAddress : ErrOk P w K mg base "BadAddress" CA "octet") (E_BadOctet : ErrOk P w K mg base "BadOctet" CB "value") : FnOk P w K mg base (L2.CX P w) 5 f fd P_Memory___setitem__ (spSetI C CA CB) := by
  refine F.okX sc_Memory___setitem__ (fun vs H Q E h => ?_) (fun cdv A outer s H vs Q E hr h => ?_)
  · obtain ⟨_, _, _, _, _, _, _, rfl, _⟩ := h
    rfl
  · obtain ⟨p, l, xs, x, y, t, u, rfl, ⟨hpl, dx, hp, hl⟩, plx, ply, k1, k2, k3⟩ := h
    refine ⟨_, (pss_cons (ps_if (pt_not (pt_val (pe_callD D_is_address (hr.mono (by decide)) (by rfl) (pa_cons (pv 1) (pa_cons (pe_callB (len_k (K := K) rfl) (by rfl) T.z_len PySem.boot_len (pa_cons (fld_k (K := K) rfl (pv 0) rfl) pa_nil)) pa_nil))))) (pss_one (ps_raise rfl (takes_of rfl rfl rfl rfl) (pmk_err E_BadAddress (hr.mono (by decide)) (by rfl) (pa_cons (pv 1) pa_nil)))) pss_nil)
      (pss_cons (ps_if (pt_not (pt_val (pe_callD D_is_octet (hr.mono (by decide)) (by rfl) (pa_cons (pv 2) pa_nil)))) (pss_one (ps_raise rfl (takes_of rfl rfl rfl rfl) (pmk_err E_BadOctet (hr.mono (by decide)) (by rfl) (pa_cons (pv 2) pa_nil)))) pss_nil)
      (pss_one (ps_asg (pv 2) (pg_sub (fld_k (K := K) rfl (pv 0) rfl) (pv 1) set_list))))), ?_⟩
    left
    rw [List.length_map]
    refine ⟨x, t, _, rfl, plx, ?_⟩
    cases ea : adrV xs.length x with
    | false =>
      left
      exact w_errGo (k1 ea)
    | true =>
      left
      refine ⟨y, u, rfl, ply, ?_⟩
      cases eo : octV y with
      | false =>
        left
        exact w_errGo (k2 ea eo)
      | true =>
        cases x with
        | int i =>
          cases y with
          | int j =>
            have hi : 0 ≤ i ∧ i < xs.length := of_decide_eq_true ea
            have hj : 0 ≤ j ∧ j ≤ 255 := of_decide_eq_true eo
            obtain ⟨i, rfl⟩ := Int.eq_ofNat_of_zero_le hi.1
            have hi2 : i < xs.length := by omega
            left
            refine w_setL hl (j := i) (ixN_of (by rw [List.length_map]; exact hi2)) ?_
            left
            rw [set_int]
            exact k3 i j rfl rfl hi2 ⟨hj.1, by omega⟩ _ ⟨hpl, dx, hg_ne hpl hp, upd_same⟩ fun b o hb h => hg_ne hb h
          | _ => cases eo
        | _ => cases ea
/-- m[x] = y by a def -/
theorem ok_set {f C CA CB : Addr} {fd : FuncData} (F : Fun K "_law_set" "_law_set" s__law_set f fd) (T : Txt K mg) (D_set : SpecOk P w K mg base C "__setitem__" 7 (spSetI C CA CB)) : FnOk P w K mg base (L2.CX P w) 9 f fd P__law_set (spSetI C CA CB) := by
  refine F.okX sc__law_set (fun vs H Q E h => ?_) (fun cdv A outer s H vs Q E hr h => ?_)
  · obtain ⟨_, _, _, _, _, _, _, rfl, _⟩ := h
    rfl
  · obtain ⟨p, l, xs, x, y, t, u, rfl, hM, plx, ply, k1, k2, k3⟩ := h
    obtain ⟨dx, hp⟩ : ∃ dx, H p = some (.ins C dx [("cells", .ref l)]) := hM.2.imp fun dx h => h.1
    refine ⟨_, (pss_one (ps_asg (pv 2) (pg_itemG (C := C) (k := 7) (sp := spSetI C CA CB) (fun σ => passAt (takes_of rfl rfl rfl rfl) σ) D_set (hr.mono (by decide)) (pv 0) (pv 1)))), ?_⟩
    left
    exact ⟨p, l, xs, x, y, t, u, rfl, hM, plx, ply, k1, k2, k3⟩
/-- is it a place -/
theorem ok_isp {f : Addr} {fd : FuncData} (F : Fun K "_law_is_place" "_law_is_place" s__law_is_place f fd) (T : Txt K mg) : FnOk P w K mg base CX0 1 f fd P__law_is_place spAddr := by
  refine F.ok sc__law_is_place (fun vs H Q E h => ?_) (fun cdv A outer s H vs Q E hr h => ?_)
  · obtain ⟨_, _, _, rfl, _⟩ := h
    rfl
  · obtain ⟨x, t, n, rfl, pl, k⟩ := h
    refine ⟨_, (pss_one (ps_ret (pe_and (pe_callB (isi_k (K := K) rfl) (by rfl) T.z_isinstance (by decide +kernel) (pa_cons (pv 0) (pa_cons (pe_bltn (v := .ty "int") (by rfl) T.z_int (by decide +kernel) rfl) pa_nil))) (pe_and (pe_not (pe_callB (isi_k (K := K) rfl) (by rfl) T.z_isinstance (by decide +kernel) (pa_cons (pv 0) (pa_cons (pe_bltn (v := .ty "bool") (by rfl) T.z_bool (by decide +kernel) rfl) pa_nil)))) (pe_one (pe_chain op_le op_lt pe_int (pv 0) (pv 1))))))), ?_⟩
    cases pl with
    | int i =>
      left
      refine w_ite (fun h => ?_) (fun h => ?_)
      · left
        have e : decide (i < n) = adrV n (.int i) := by simp [adrV, h]
        rw [e]; exact k
      · have e : false = adrV n (.int i) := by simp [adrV, h]
        rw [e]; exact k
    | bl b => left; exact k
    | non => left; exact k
    | str x => left; exact k
    | lst h => left; exact k
    | tup h => left; exact k
    | dct h => left; exact k
/-- what the error of an asked call has -/
def ToldE (CA CB : Addr) (g : List Code) (Q : VK) : XK := fun cls d H' => ∃ dd x, d = some dd ∧ Odd H' x ∧
  ((cls = .ref CA ∧ H' dd = some (.xd [("octet", x)]) ∧ ∀ q, H' q = none → Q (.ref q) (upd H' q (.tup [.str "address", .str (txR g H' x)]))) ∨
   (cls = .ref CB ∧ H' dd = some (.xd [("value", x)]) ∧ ∀ q, H' q = none → Q (.ref q) (upd H' q (.tup [.str "octet", .str (txR g H' x)]))))
def TTold (CA CB : Addr) (g : List Code) (tl : XK → Hp → VK → Prop) (H : Hp) (Q : VK) : Prop := tl (ToldE CA CB g Q) H fun v H1 => ∀ q, H1 q = none → Q (.ref q) (upd H1 q (.tup [.str "told", v]))
theorem len3 {σ : St} (h : σ.length = 3) : ∃ a b c, σ = [a, b, c] := by
  match σ, h with
  | [a, b, c], _ => exact ⟨a, b, c, rfl⟩
theorem told_gives {X : Cx} {CA CB ga : Addr} {cdv : Value} {q : Str} {gg : List Code} (hgX : X.A.guards = some gg) (hr0 : Room 2 X.A) (T : Txt X.K X.mg) (E_BadAddress : ErrOk X.prog X.w X.K X.mg X.base "BadAddress" CA "octet") (E_BadOctet : ErrOk X.prog X.w X.K X.mg X.base "BadOctet" CB "value")
    (tA : PySem.W.exmOne X.K (.ref CA) (.ref CA) = some true) (tB : PySem.W.exmOne X.K (.ref CB) (.ref CB) = some true) (tBA : PySem.W.exmOne X.K (.ref CB) (.ref CA) = some false) :
    LamX.GivesTo X N__law_told "_law_told" (defScope s__law_told) ga cdv (defBody s__law_told) "_law_ask" q (TTold CA CB gg) := by
  intro f c' s H Q tl act hco h
  have hr : Room 1 (X.A.deeper (PyProof.Rows.envOfC "_law_told" (defScope s__law_told) s.heap.objs.size ga cdv)) := hr0.deeper _
  refine ⟨_, (pss_cons (ps_set (i := 1) sc__law_told.nd rfl (Or.inl rfl) pe_non)
      (pss_cons (ps_tryAs (i := 2) rfl rfl sc__law_told.nd rfl rfl takes0 (fun W pn xe tk _ => (pss_one (ps_set (i := 1) sc__law_told.nd rfl (Or.inl rfl) (pe_tup (pa_cons pe_str (pa_cons (pe_act2 (fun E hW => act W pn xe E _ _ tk hW)) pa_nil)))))) (.cons ⟨rfl, by decide, Or.inl E_BadAddress.mgC⟩ (fun a oe cls d pn hz hf => (pss_one (ps_set (i := 1) sc__law_told.nd rfl (Or.inl rfl) (pe_tup (pa_cons pe_str (pa_cons (pe_callB (call_reprG (g := gg) hgX hr.units) (by rfl) T.z_repr (by decide +kernel) (pa_cons (pe_xf E_BadAddress.xf E_BadAddress.nf hz hf (pv 2)) pa_nil)) pa_nil)))))) (.cons ⟨rfl, by decide, Or.inl E_BadOctet.mgC⟩ (fun a oe cls d pn hz hf => (pss_one (ps_set (i := 1) sc__law_told.nd rfl (Or.inl rfl) (pe_tup (pa_cons pe_str (pa_cons (pe_callB (call_reprG (g := gg) hgX hr.units) (by rfl) T.z_repr (by decide +kernel) (pa_cons (pe_xf E_BadOctet.xf E_BadOctet.nf hz hf (pv 2)) pa_nil)) pa_nil)))))) .nil)))
      (pss_one (ps_ret (pv 1))))), ?_⟩
  left
  refine ⟨ToldE CA CB gg Q, _, ?_, rfl, hco, h, ?_⟩
  · rintro cls d σ' H' ⟨dd, x, rfl, od, h⟩
    rcases h with ⟨rfl, hd, k⟩ | ⟨rfl, hd, k⟩
    · refine ⟨true, tA, fun _ hl a ha => ?_, fun z => Bool.noConfusion z⟩
      obtain ⟨x0, x1, x2, rfl⟩ := len3 hl
      left
      refine ⟨x, rfl, od, ?_⟩
      left
      refine ⟨by show 2 ≤ sizeLine; decide, fun t1 ht1 => ?_⟩
      left
      show tRet (tVar 1) _ [x0, some (.ref t1), none] _
      left
      exact k t1 ht1
    · refine ⟨false, tBA, fun z => Bool.noConfusion z, fun _ => ⟨true, tB, fun _ hl a ha => ?_, fun z => Bool.noConfusion z⟩⟩
      obtain ⟨x0, x1, x2, rfl⟩ := len3 hl
      left
      refine ⟨x, rfl, od, ?_⟩
      left
      refine ⟨by show 2 ≤ sizeLine; decide, fun t1 ht1 => ?_⟩
      left
      show tRet (tVar 1) _ [x0, some (.ref t1), none] _
      left
      exact k t1 ht1
  · intro v H1 k
    left
    refine ⟨by show 2 ≤ sizeLine; decide, fun t1 ht1 => ?_⟩
    left
    exact k t1 ht1
/-- the very list -/
def spVery (C : Addr) : Sp := fun vs H Q _ => ∃ (p l a : Addr) (z : Int) (i : Int) (word : Str), vs = [.ref p, .ref a, .str word] ∧ MemAt H C p l [z] ∧ H a = some (.lst [.int i]) ∧ (word = "address" ∨ word = "octet") ∧ ∀ H', Q (.bl true) H'
theorem len5 {σ : St} (h : σ.length = 5) : ∃ a b c d e, σ = [a, b, c, d, e] := by
  match σ, h with
  | [a, b, c, d, e], _ => exact ⟨a, b, c, d, e, rfl⟩
theorem ok_very {f C CA CB : Addr} {fd : FuncData} (F : Fun K "_law_is_very" "_law_is_very" s__law_is_very f fd) (T : Txt K mg) (D__law_set : CallOk P w K mg base "_law_set" 9 (spSetI C CA CB)) (E_BadAddress : ErrOk P w K mg base "BadAddress" CA "octet") (E_BadOctet : ErrOk P w K mg base "BadOctet" CB "value")
    (tA : PySem.W.exmOne K (.ref CA) (.ref CA) = some true) (tB : PySem.W.exmOne K (.ref CB) (.ref CB) = some true) (tBA : PySem.W.exmOne K (.ref CB) (.ref CA) = some false) : FnOk P w K mg base CX0 10 f fd P__law_is_very (spVery C) := by
  refine F.ok sc__law_is_very (fun vs H Q E h => ?_) (fun cdv A outer s H vs Q E hr h => ?_)
  · obtain ⟨_, _, _, _, _, _, rfl, _⟩ := h
    rfl
  · obtain ⟨p, l, a, z, i, word, rfl, hM, ha, hw, k⟩ := h
    refine ⟨_, (pss_cons (ps_set (i := 3) sc__law_is_very.nd rfl (Or.inl rfl) pe_non)
      (pss_cons (ps_tryAs (i := 4) rfl rfl sc__law_is_very.nd rfl rfl takes0 (fun W pn xe tk _ => (pss_one (ps_expr (pe_callW tk D__law_set (hr.mono (by decide)) (by rfl) (pa_cons (pv 0) (pa_cons (pe_ifExp (pt_cmpR op_eq (pv 2) pe_str (nomark _)) (pv 1) pe_int) (pa_cons (pe_ifExp (pt_cmpR op_eq (pv 2) pe_str (nomark _)) pe_int (pv 1)) pa_nil))))))) (.cons ⟨rfl, by decide, Or.inl E_BadAddress.mgC⟩ (fun a oe cls d pn hz hf => (pss_one (ps_set (i := 3) sc__law_is_very.nd rfl (Or.inl rfl) (pe_ifExp (pt_cmpR op_eq (pv 2) pe_str (nomark _)) (pe_xf E_BadAddress.xf E_BadAddress.nf hz hf (pv 4)) pe_non)))) (.cons ⟨rfl, by decide, Or.inl E_BadOctet.mgC⟩ (fun a oe cls d pn hz hf => (pss_one (ps_set (i := 3) sc__law_is_very.nd rfl (Or.inl rfl) (pe_ifExp (pt_cmpR op_eq (pv 2) pe_str (nomark _)) (pe_xf E_BadOctet.xf E_BadOctet.nf hz hf (pv 4)) pe_non)))) .nil)))
      (pss_cons (ps_expr (pe_bm PySem.F.plainAttrs_list PySem.F.slot_list_append PySem.F.type_list_append mt_append (pv 1) (pa_cons pe_int pa_nil)))
      (pss_one (ps_ret (pe_cmpR (eqD_k (K := K) hr.units rfl) (pv 3) (pv 1) (nomark _))))))), ?_⟩
    have fin : ∀ H9 : Hp, H9 a = some (.lst [.int i, .int 5]) → rEqD K (.ref a) (.ref a) H9 (fun v H => Q v H) := fun H9 h9 => by
      refine ⟨.list ([i, 5].map PyData.int), .list ([i, 5].map PyData.int), .lst (SqL.of h9) (Dp.ints [i, 5]), .lst (SqL.of h9) (Dp.ints [i, 5]), shaped_ints _, shaped_ints _, ?_⟩
      rw [show PyData.eqv (.list ([i, 5].map PyData.int)) (.list ([i, 5].map PyData.int)) = true from by simp [PyData.eqv, PyData.eqvAll]]
      exact k _
    rcases hw with rfl | rfl
    · left
      refine ⟨p, l, [z], .ref a, .int 0, _, _, rfl, hM, .lst ha, .int 0, fun _ d H' hd sm he => ?_, fun e => by simp [adrV] at e, fun _ _ e => by cases e⟩
      refine ⟨true, tA, fun _ hl y hy => ?_, fun z => Bool.noConfusion z⟩
      left
      simp only [endsE]
      have h8 := sm _ _ ha
      left
      refine w_app h8 (by show 1 < sizeLine; decide) ?_
      left
      exact fin _ upd_same
    · left
      refine ⟨p, l, [z], .int 0, .ref a, _, _, rfl, hM, .int 0, .lst ha, fun e => by simp [adrV] at e, fun _ _ d H' hd sm he => ?_, fun _ _ _ e => by cases e⟩
      refine ⟨false, tBA, fun z => Bool.noConfusion z, fun _ => ⟨true, tB, fun _ hl y hy => ?_, fun z => Bool.noConfusion z⟩⟩
      left
      simp only [endsE]
      have h8 := sm _ _ ha
      left
      refine w_app h8 (by show 1 < sizeLine; decide) ?_
      left
      exact fin _ upd_same
end

local macro_rules | `(tactic| left) => `(tactic| (repeat (first | with_reducible refine w_seq ?_ | with_reducible refine w_next ?_ | with_reducible refine w_asg ?_ | with_reducible refine w_drop ?_ | with_reducible refine w_ret ?_ | with_reducible refine w_if ?_ | with_reducible refine w_name ?_ | with_reducible refine w_sub ?_ | with_reducible refine w_c ?_ | with_reducible refine w_op ?_ | with_reducible refine w_un ?_ | with_reducible refine w_U ?_ | with_reducible refine w_I0 ?_ | with_reducible refine w_test ?_ | with_reducible refine w_B ?_ | with_reducible refine w_bl ?_ | with_reducible refine w_not ?_ | with_reducible refine w_and ?_ | with_reducible refine w_or ?_ | with_reducible refine w_ifE ?_ | with_reducible refine w_andV ?_ | with_reducible refine w_orV ?_ | with_reducible refine w_notV ?_ | with_reducible refine w_chain ?_ | with_reducible refine w_nil ?_ | with_reducible refine w_cons ?_ | with_reducible refine w_lst ?_ | with_reducible refine w_tup ?_ | with_reducible refine w_cb ?_ | with_reducible refine w_bm ?_ | with_reducible refine w_call ?_ | with_reducible refine w_int1 ?_ | with_reducible refine w_max ?_ | with_reducible refine w_min ?_ | with_reducible refine w_lc ?_ | with_reducible refine w_for ?_ | with_reducible refine w_rng1 ?_ | with_reducible refine w_listI ?_ | with_reducible refine w_tupI ?_ | with_reducible refine w_zipI ?_ | with_reducible refine w_yes ?_ | with_reducible refine w_turn ?_ | with_reducible refine iteT ?_ | with_reducible refine iteF ?_ | with_reducible refine w_gcons ?_ | with_reducible refine w_gnil ?_ | with_reducible refine w_fld ?_ | with_reducible refine w_sfld ?_ | with_reducible refine w_make ?_ | with_reducible refine w_meth ?_ | with_reducible refine w_gsl ?_ | with_reducible refine w_err ?_ | with_reducible refine w_sl ?_ | with_reducible refine w_part ?_ | with_reducible refine w_nopart ?_ | with_reducible refine w_partGo ?_ | with_reducible refine w_methW ?_ | with_reducible refine w_xf ?_ | with_reducible refine w_isB ?_ | with_reducible refine w_iteSame ?_ | with_reducible refine w_iteNSame ?_ | with_reducible refine w_iteNT ?_ | with_reducible refine w_iteNF ?_ | with_reducible refine w_ipI ?_ | with_reducible refine w_isN ?_ | with_reducible refine w_notN ?_ | with_reducible refine w_iteIntNon ?_ | with_reducible refine w_iteNIntNon ?_ | with_reducible refine w_iteNonInt ?_ | with_reducible refine w_par ?_ | with_reducible refine w_par3 ?_ | with_reducible refine w_parGo ?_ | with_reducible refine w_parGo3 ?_ | with_reducible refine w_makeW ?_ | with_reducible refine w_callS ?_ | with_reducible refine w_prop ?_ | with_reducible refine w_item ?_ | with_reducible refine w_gitem ?_ | ((with_reducible apply w_var); (focus rfl)) | ((with_reducible apply w_aug); (focus rfl)) | ((with_reducible refine w_iteStrNe ?_ ?_); (focus decide +kernel)) | ((with_reducible refine w_iteNStrNe ?_ ?_); (focus decide +kernel)) | ((with_reducible refine w_eq ?_ ?_); (focus rfl)) | ((with_reducible refine w_ne ?_ ?_); (focus rfl)) | ((with_reducible apply w_ixL); (focus ((repeat (first | with_reducible exact upd_same | (with_reducible refine hg_new (by assumption) ?_) | (with_reducible refine hg_ne (by first | assumption | exact Ne.symm (by assumption) | exact ne_of_none (by assumption) (by assumption) | exact Ne.symm (ne_of_none (by assumption) (by assumption))) ?_))); first | done | assumption | exact upd_same)); (focus rfl)) | ((with_reducible apply w_ixT); (focus ((repeat (first | with_reducible exact upd_same | (with_reducible refine hg_new (by assumption) ?_) | (with_reducible refine hg_ne (by first | assumption | exact Ne.symm (by assumption) | exact ne_of_none (by assumption) (by assumption) | exact Ne.symm (ne_of_none (by assumption) (by assumption))) ?_))); first | done | assumption | exact upd_same)); (focus rfl)) | ((with_reducible apply w_setL); (focus ((repeat (first | with_reducible exact upd_same | (with_reducible refine hg_new (by assumption) ?_) | (with_reducible refine hg_ne (by first | assumption | exact Ne.symm (by assumption) | exact ne_of_none (by assumption) (by assumption) | exact Ne.symm (ne_of_none (by assumption) (by assumption))) ?_))); first | done | assumption | exact upd_same)); (focus rfl)) | ((with_reducible apply w_len); (focus ((repeat (first | with_reducible exact upd_same | (with_reducible refine hg_new (by assumption) ?_) | (with_reducible refine hg_ne (by first | assumption | exact Ne.symm (by assumption) | exact ne_of_none (by assumption) (by assumption) | exact Ne.symm (ne_of_none (by assumption) (by assumption))) ?_))); first | done | assumption | exact upd_same))) | ((with_reducible apply w_lenT); (focus ((repeat (first | with_reducible exact upd_same | (with_reducible refine hg_new (by assumption) ?_) | (with_reducible refine hg_ne (by first | assumption | exact Ne.symm (by assumption) | exact ne_of_none (by assumption) (by assumption) | exact Ne.symm (ne_of_none (by assumption) (by assumption))) ?_))); first | done | assumption | exact upd_same))) | ((with_reducible apply w_list); (focus ((repeat (first | with_reducible exact upd_same | (with_reducible refine hg_new (by assumption) ?_) | (with_reducible refine hg_ne (by first | assumption | exact Ne.symm (by assumption) | exact ne_of_none (by assumption) (by assumption) | exact Ne.symm (ne_of_none (by assumption) (by assumption))) ?_))); first | done | assumption | exact upd_same))) | ((with_reducible apply w_fldGo); (focus ((repeat (first | with_reducible exact upd_same | (with_reducible refine hg_new (by assumption) ?_) | (with_reducible refine hg_ne (by first | assumption | exact Ne.symm (by assumption) | exact ne_of_none (by assumption) (by assumption) | exact Ne.symm (ne_of_none (by assumption) (by assumption))) ?_))); first | done | assumption | exact upd_same)); (focus assumption); (focus assumption); (focus (first | exact lk_one | (focus (simp [List.lookup]; done)) | rfl))) | ((with_reducible apply w_sfldGo); (focus ((repeat (first | with_reducible exact upd_same | (with_reducible refine hg_new (by assumption) ?_) | (with_reducible refine hg_ne (by first | assumption | exact Ne.symm (by assumption) | exact ne_of_none (by assumption) (by assumption) | exact Ne.symm (ne_of_none (by assumption) (by assumption))) ?_))); first | done | assumption | exact upd_same)); (focus assumption); (focus assumption); (focus decide)) | ((with_reducible apply w_methGo); (focus ((repeat (first | with_reducible exact upd_same | (with_reducible refine hg_new (by assumption) ?_) | (with_reducible refine hg_ne (by first | assumption | exact Ne.symm (by assumption) | exact ne_of_none (by assumption) (by assumption) | exact Ne.symm (ne_of_none (by assumption) (by assumption))) ?_))); first | done | assumption | exact upd_same)); (focus first | exact lk_no (by decide +kernel) | rfl | (simp [List.lookup]; done))) | ((with_reducible apply w_xfGo); (focus ((repeat (first | with_reducible exact upd_same | (with_reducible refine hg_new (by assumption) ?_) | (with_reducible refine hg_ne (by first | assumption | exact Ne.symm (by assumption) | exact ne_of_none (by assumption) (by assumption) | exact Ne.symm (ne_of_none (by assumption) (by assumption))) ?_))); first | done | assumption | exact upd_same)); (focus (first | exact lk_one | (focus (simp [List.lookup]; done)) | rfl))) | ((with_reducible apply w_isi (r := true)); (focus (first | exact .base (.int _) | exact .base .non | exact .base (.bl _) | exact .base (.str _) | exact .base (.lst (by ((repeat (first | with_reducible exact upd_same | (with_reducible refine hg_new (by assumption) ?_) | (with_reducible refine hg_ne (by first | assumption | exact Ne.symm (by assumption) | exact ne_of_none (by assumption) (by assumption) | exact Ne.symm (ne_of_none (by assumption) (by assumption))) ?_))); first | done | assumption | exact upd_same))) | exact .base (.tup (by ((repeat (first | with_reducible exact upd_same | (with_reducible refine hg_new (by assumption) ?_) | (with_reducible refine hg_ne (by first | assumption | exact Ne.symm (by assumption) | exact ne_of_none (by assumption) (by assumption) | exact Ne.symm (ne_of_none (by assumption) (by assumption))) ?_))); first | done | assumption | exact upd_same))) | exact .base (.dK (by ((repeat (first | with_reducible exact upd_same | (with_reducible refine hg_new (by assumption) ?_) | (with_reducible refine hg_ne (by first | assumption | exact Ne.symm (by assumption) | exact ne_of_none (by assumption) (by assumption) | exact Ne.symm (ne_of_none (by assumption) (by assumption))) ?_))); first | done | assumption | exact upd_same))))); (focus decide +kernel)) | ((with_reducible apply w_isi (r := false)); (focus (first | exact .base (.int _) | exact .base .non | exact .base (.bl _) | exact .base (.str _) | exact .base (.lst (by ((repeat (first | with_reducible exact upd_same | (with_reducible refine hg_new (by assumption) ?_) | (with_reducible refine hg_ne (by first | assumption | exact Ne.symm (by assumption) | exact ne_of_none (by assumption) (by assumption) | exact Ne.symm (ne_of_none (by assumption) (by assumption))) ?_))); first | done | assumption | exact upd_same))) | exact .base (.tup (by ((repeat (first | with_reducible exact upd_same | (with_reducible refine hg_new (by assumption) ?_) | (with_reducible refine hg_ne (by first | assumption | exact Ne.symm (by assumption) | exact ne_of_none (by assumption) (by assumption) | exact Ne.symm (ne_of_none (by assumption) (by assumption))) ?_))); first | done | assumption | exact upd_same))) | exact .base (.dK (by ((repeat (first | with_reducible exact upd_same | (with_reducible refine hg_new (by assumption) ?_) | (with_reducible refine hg_ne (by first | assumption | exact Ne.symm (by assumption) | exact ne_of_none (by assumption) (by assumption) | exact Ne.symm (ne_of_none (by assumption) (by assumption))) ?_))); first | done | assumption | exact upd_same))))); (focus decide +kernel)) | ((with_reducible apply w_slL); (focus ((repeat (first | with_reducible exact upd_same | (with_reducible refine hg_new (by assumption) ?_) | (with_reducible refine hg_ne (by first | assumption | exact Ne.symm (by assumption) | exact ne_of_none (by assumption) (by assumption) | exact Ne.symm (ne_of_none (by assumption) (by assumption))) ?_))); first | done | assumption | exact upd_same))) | ((with_reducible apply w_itemGo); (focus ((repeat (first | with_reducible exact upd_same | (with_reducible refine hg_new (by assumption) ?_) | (with_reducible refine hg_ne (by first | assumption | exact Ne.symm (by assumption) | exact ne_of_none (by assumption) (by assumption) | exact Ne.symm (ne_of_none (by assumption) (by assumption))) ?_))); first | done | assumption | exact upd_same))) | ((with_reducible apply w_lenO); (focus ((repeat (first | with_reducible exact upd_same | (with_reducible refine hg_new (by assumption) ?_) | (with_reducible refine hg_ne (by first | assumption | exact Ne.symm (by assumption) | exact ne_of_none (by assumption) (by assumption) | exact Ne.symm (ne_of_none (by assumption) (by assumption))) ?_))); first | done | assumption | exact upd_same))) | ((with_reducible apply w_gtup); (focus ((repeat (first | with_reducible exact upd_same | (with_reducible refine hg_new (by assumption) ?_) | (with_reducible refine hg_ne (by first | assumption | exact Ne.symm (by assumption) | exact ne_of_none (by assumption) (by assumption) | exact Ne.symm (ne_of_none (by assumption) (by assumption))) ?_))); first | done | assumption | exact upd_same)); (focus rfl)) | ((with_reducible apply w_tyL); (focus ((repeat (first | with_reducible exact upd_same | (with_reducible refine hg_new (by assumption) ?_) | (with_reducible refine hg_ne (by first | assumption | exact Ne.symm (by assumption) | exact ne_of_none (by assumption) (by assumption) | exact Ne.symm (ne_of_none (by assumption) (by assumption))) ?_))); first | done | assumption | exact upd_same))) | ((with_reducible apply w_pop0); (focus ((repeat (first | with_reducible exact upd_same | (with_reducible refine hg_new (by assumption) ?_) | (with_reducible refine hg_ne (by first | assumption | exact Ne.symm (by assumption) | exact ne_of_none (by assumption) (by assumption) | exact Ne.symm (ne_of_none (by assumption) (by assumption))) ?_))); first | done | assumption | exact upd_same))) | ((with_reducible apply w_I); (focus first | (show CMul _ _; first | exact .inl ⟨by omega, by omega⟩ | exact .inr ⟨by omega, by omega⟩) | (show CPow _ _; exact ⟨by omega, by omega, by omega⟩) | (show CDivN _ _; exact ⟨by omega, by omega⟩) | omega)))))
local macro_rules | `(tactic| right) => `(tactic| (repeat (first | with_reducible refine w_seq ?_ | with_reducible refine w_next ?_ | with_reducible refine w_asg ?_ | with_reducible refine w_drop ?_ | with_reducible refine w_ret ?_ | with_reducible refine w_if ?_ | with_reducible refine w_name ?_ | with_reducible refine w_sub ?_ | with_reducible refine w_c ?_ | with_reducible refine w_op ?_ | with_reducible refine w_un ?_ | with_reducible refine w_U ?_ | with_reducible refine w_I0 ?_ | with_reducible refine w_test ?_ | with_reducible refine w_B ?_ | with_reducible refine w_bl ?_ | with_reducible refine w_not ?_ | with_reducible refine w_and ?_ | with_reducible refine w_or ?_ | with_reducible refine w_ifE ?_ | with_reducible refine w_andV ?_ | with_reducible refine w_orV ?_ | with_reducible refine w_notV ?_ | with_reducible refine w_chain ?_ | with_reducible refine w_nil ?_ | with_reducible refine w_cons ?_ | with_reducible refine w_lst ?_ | with_reducible refine w_tup ?_ | with_reducible refine w_cb ?_ | with_reducible refine w_bm ?_ | with_reducible refine w_call ?_ | with_reducible refine w_int1 ?_ | with_reducible refine w_max ?_ | with_reducible refine w_min ?_ | with_reducible refine w_lc ?_ | with_reducible refine w_for ?_ | with_reducible refine w_rng1 ?_ | with_reducible refine w_listI ?_ | with_reducible refine w_tupI ?_ | with_reducible refine w_zipI ?_ | with_reducible refine w_yes ?_ | with_reducible refine w_turn ?_ | with_reducible refine iteT ?_ | with_reducible refine iteF ?_ | with_reducible refine w_gcons ?_ | with_reducible refine w_gnil ?_ | with_reducible refine w_fld ?_ | with_reducible refine w_sfld ?_ | with_reducible refine w_make ?_ | with_reducible refine w_meth ?_ | with_reducible refine w_gsl ?_ | with_reducible refine w_err ?_ | with_reducible refine w_sl ?_ | with_reducible refine w_part ?_ | with_reducible refine w_nopart ?_ | with_reducible refine w_partGo ?_ | with_reducible refine w_methW ?_ | with_reducible refine w_xf ?_ | with_reducible refine w_isB ?_ | with_reducible refine w_iteSame ?_ | with_reducible refine w_iteNSame ?_ | with_reducible refine w_iteNT ?_ | with_reducible refine w_iteNF ?_ | with_reducible refine w_ipI ?_ | with_reducible refine w_isN ?_ | with_reducible refine w_notN ?_ | with_reducible refine w_iteIntNon ?_ | with_reducible refine w_iteNIntNon ?_ | with_reducible refine w_iteNonInt ?_ | with_reducible refine w_par ?_ | with_reducible refine w_par3 ?_ | with_reducible refine w_parGo ?_ | with_reducible refine w_parGo3 ?_ | with_reducible refine w_makeW ?_ | with_reducible refine w_callS ?_ | with_reducible refine w_prop ?_ | with_reducible refine w_item ?_ | with_reducible refine w_gitem ?_ | ((with_reducible apply w_var); (focus rfl)) | ((with_reducible apply w_aug); (focus rfl)) | ((with_reducible refine w_iteStrNe ?_ ?_); (focus decide +kernel)) | ((with_reducible refine w_iteNStrNe ?_ ?_); (focus decide +kernel)) | ((with_reducible refine w_eq ?_ ?_); (focus rfl)) | ((with_reducible refine w_ne ?_ ?_); (focus rfl)) | ((with_reducible apply w_ixL); (focus ((repeat (first | with_reducible exact upd_same | (with_reducible refine hg_new (by assumption) ?_) | (with_reducible refine hg_ne (by first | assumption | exact Ne.symm (by assumption) | exact ne_of_none (by assumption) (by assumption) | exact Ne.symm (ne_of_none (by assumption) (by assumption))) ?_))); first | done | assumption | exact upd_same)); (focus rfl)) | ((with_reducible apply w_ixT); (focus ((repeat (first | with_reducible exact upd_same | (with_reducible refine hg_new (by assumption) ?_) | (with_reducible refine hg_ne (by first | assumption | exact Ne.symm (by assumption) | exact ne_of_none (by assumption) (by assumption) | exact Ne.symm (ne_of_none (by assumption) (by assumption))) ?_))); first | done | assumption | exact upd_same)); (focus rfl)) | ((with_reducible apply w_setL); (focus ((repeat (first | with_reducible exact upd_same | (with_reducible refine hg_new (by assumption) ?_) | (with_reducible refine hg_ne (by first | assumption | exact Ne.symm (by assumption) | exact ne_of_none (by assumption) (by assumption) | exact Ne.symm (ne_of_none (by assumption) (by assumption))) ?_))); first | done | assumption | exact upd_same)); (focus rfl)) | ((with_reducible apply w_len); (focus ((repeat (first | with_reducible exact upd_same | (with_reducible refine hg_new (by assumption) ?_) | (with_reducible refine hg_ne (by first | assumption | exact Ne.symm (by assumption) | exact ne_of_none (by assumption) (by assumption) | exact Ne.symm (ne_of_none (by assumption) (by assumption))) ?_))); first | done | assumption | exact upd_same))) | ((with_reducible apply w_lenT); (focus ((repeat (first | with_reducible exact upd_same | (with_reducible refine hg_new (by assumption) ?_) | (with_reducible refine hg_ne (by first | assumption | exact Ne.symm (by assumption) | exact ne_of_none (by assumption) (by assumption) | exact Ne.symm (ne_of_none (by assumption) (by assumption))) ?_))); first | done | assumption | exact upd_same))) | ((with_reducible apply w_list); (focus ((repeat (first | with_reducible exact upd_same | (with_reducible refine hg_new (by assumption) ?_) | (with_reducible refine hg_ne (by first | assumption | exact Ne.symm (by assumption) | exact ne_of_none (by assumption) (by assumption) | exact Ne.symm (ne_of_none (by assumption) (by assumption))) ?_))); first | done | assumption | exact upd_same))) | ((with_reducible apply w_fldGo); (focus ((repeat (first | with_reducible exact upd_same | (with_reducible refine hg_new (by assumption) ?_) | (with_reducible refine hg_ne (by first | assumption | exact Ne.symm (by assumption) | exact ne_of_none (by assumption) (by assumption) | exact Ne.symm (ne_of_none (by assumption) (by assumption))) ?_))); first | done | assumption | exact upd_same)); (focus assumption); (focus assumption); (focus (first | exact lk_one | (focus (simp [List.lookup]; done)) | rfl))) | ((with_reducible apply w_sfldGo); (focus ((repeat (first | with_reducible exact upd_same | (with_reducible refine hg_new (by assumption) ?_) | (with_reducible refine hg_ne (by first | assumption | exact Ne.symm (by assumption) | exact ne_of_none (by assumption) (by assumption) | exact Ne.symm (ne_of_none (by assumption) (by assumption))) ?_))); first | done | assumption | exact upd_same)); (focus assumption); (focus assumption); (focus decide)) | ((with_reducible apply w_methGo); (focus ((repeat (first | with_reducible exact upd_same | (with_reducible refine hg_new (by assumption) ?_) | (with_reducible refine hg_ne (by first | assumption | exact Ne.symm (by assumption) | exact ne_of_none (by assumption) (by assumption) | exact Ne.symm (ne_of_none (by assumption) (by assumption))) ?_))); first | done | assumption | exact upd_same)); (focus first | exact lk_no (by decide +kernel) | rfl | (simp [List.lookup]; done))) | ((with_reducible apply w_xfGo); (focus ((repeat (first | with_reducible exact upd_same | (with_reducible refine hg_new (by assumption) ?_) | (with_reducible refine hg_ne (by first | assumption | exact Ne.symm (by assumption) | exact ne_of_none (by assumption) (by assumption) | exact Ne.symm (ne_of_none (by assumption) (by assumption))) ?_))); first | done | assumption | exact upd_same)); (focus (first | exact lk_one | (focus (simp [List.lookup]; done)) | rfl))) | ((with_reducible apply w_isi (r := true)); (focus (first | exact .base (.int _) | exact .base .non | exact .base (.bl _) | exact .base (.str _) | exact .base (.lst (by ((repeat (first | with_reducible exact upd_same | (with_reducible refine hg_new (by assumption) ?_) | (with_reducible refine hg_ne (by first | assumption | exact Ne.symm (by assumption) | exact ne_of_none (by assumption) (by assumption) | exact Ne.symm (ne_of_none (by assumption) (by assumption))) ?_))); first | done | assumption | exact upd_same))) | exact .base (.tup (by ((repeat (first | with_reducible exact upd_same | (with_reducible refine hg_new (by assumption) ?_) | (with_reducible refine hg_ne (by first | assumption | exact Ne.symm (by assumption) | exact ne_of_none (by assumption) (by assumption) | exact Ne.symm (ne_of_none (by assumption) (by assumption))) ?_))); first | done | assumption | exact upd_same))) | exact .base (.dK (by ((repeat (first | with_reducible exact upd_same | (with_reducible refine hg_new (by assumption) ?_) | (with_reducible refine hg_ne (by first | assumption | exact Ne.symm (by assumption) | exact ne_of_none (by assumption) (by assumption) | exact Ne.symm (ne_of_none (by assumption) (by assumption))) ?_))); first | done | assumption | exact upd_same))))); (focus decide +kernel)) | ((with_reducible apply w_isi (r := false)); (focus (first | exact .base (.int _) | exact .base .non | exact .base (.bl _) | exact .base (.str _) | exact .base (.lst (by ((repeat (first | with_reducible exact upd_same | (with_reducible refine hg_new (by assumption) ?_) | (with_reducible refine hg_ne (by first | assumption | exact Ne.symm (by assumption) | exact ne_of_none (by assumption) (by assumption) | exact Ne.symm (ne_of_none (by assumption) (by assumption))) ?_))); first | done | assumption | exact upd_same))) | exact .base (.tup (by ((repeat (first | with_reducible exact upd_same | (with_reducible refine hg_new (by assumption) ?_) | (with_reducible refine hg_ne (by first | assumption | exact Ne.symm (by assumption) | exact ne_of_none (by assumption) (by assumption) | exact Ne.symm (ne_of_none (by assumption) (by assumption))) ?_))); first | done | assumption | exact upd_same))) | exact .base (.dK (by ((repeat (first | with_reducible exact upd_same | (with_reducible refine hg_new (by assumption) ?_) | (with_reducible refine hg_ne (by first | assumption | exact Ne.symm (by assumption) | exact ne_of_none (by assumption) (by assumption) | exact Ne.symm (ne_of_none (by assumption) (by assumption))) ?_))); first | done | assumption | exact upd_same))))); (focus decide +kernel)) | ((with_reducible apply w_slL); (focus ((repeat (first | with_reducible exact upd_same | (with_reducible refine hg_new (by assumption) ?_) | (with_reducible refine hg_ne (by first | assumption | exact Ne.symm (by assumption) | exact ne_of_none (by assumption) (by assumption) | exact Ne.symm (ne_of_none (by assumption) (by assumption))) ?_))); first | done | assumption | exact upd_same))) | ((with_reducible apply w_itemGo); (focus ((repeat (first | with_reducible exact upd_same | (with_reducible refine hg_new (by assumption) ?_) | (with_reducible refine hg_ne (by first | assumption | exact Ne.symm (by assumption) | exact ne_of_none (by assumption) (by assumption) | exact Ne.symm (ne_of_none (by assumption) (by assumption))) ?_))); first | done | assumption | exact upd_same))) | ((with_reducible apply w_lenO); (focus ((repeat (first | with_reducible exact upd_same | (with_reducible refine hg_new (by assumption) ?_) | (with_reducible refine hg_ne (by first | assumption | exact Ne.symm (by assumption) | exact ne_of_none (by assumption) (by assumption) | exact Ne.symm (ne_of_none (by assumption) (by assumption))) ?_))); first | done | assumption | exact upd_same))) | ((with_reducible apply w_gtup); (focus ((repeat (first | with_reducible exact upd_same | (with_reducible refine hg_new (by assumption) ?_) | (with_reducible refine hg_ne (by first | assumption | exact Ne.symm (by assumption) | exact ne_of_none (by assumption) (by assumption) | exact Ne.symm (ne_of_none (by assumption) (by assumption))) ?_))); first | done | assumption | exact upd_same)); (focus rfl)) | ((with_reducible apply w_tyL); (focus ((repeat (first | with_reducible exact upd_same | (with_reducible refine hg_new (by assumption) ?_) | (with_reducible refine hg_ne (by first | assumption | exact Ne.symm (by assumption) | exact ne_of_none (by assumption) (by assumption) | exact Ne.symm (ne_of_none (by assumption) (by assumption))) ?_))); first | done | assumption | exact upd_same))) | ((with_reducible apply w_pop0); (focus ((repeat (first | with_reducible exact upd_same | (with_reducible refine hg_new (by assumption) ?_) | (with_reducible refine hg_ne (by first | assumption | exact Ne.symm (by assumption) | exact ne_of_none (by assumption) (by assumption) | exact Ne.symm (ne_of_none (by assumption) (by assumption))) ?_))); first | done | assumption | exact upd_same))) | ((with_reducible apply w_I); (focus first | (show CMul _ _; first | exact .inl ⟨by omega, by omega⟩ | exact .inr ⟨by omega, by omega⟩) | (show CPow _ _; exact ⟨by omega, by omega, by omega⟩) | (show CDivN _ _; exact ⟨by omega, by omega⟩) | omega)) | ((with_reducible refine w_lstGo ?_ ?_); (focus (show _ ≤ sizeLine; decide)); (intro _ _)) | ((with_reducible refine w_tupGo' ?_ ?_); (focus (show _ ≤ sizeLine; decide)); (intro _ _)) | ((with_reducible apply w_isiT ["list", "tuple"] (r := true)); (focus ((repeat (first | with_reducible exact upd_same | (with_reducible refine hg_new (by assumption) ?_) | (with_reducible refine hg_ne (by first | assumption | exact Ne.symm (by assumption) | exact ne_of_none (by assumption) (by assumption) | exact Ne.symm (ne_of_none (by assumption) (by assumption))) ?_))); first | done | assumption | exact upd_same)); (focus rfl); (focus (first | exact .base (.int _) | exact .base .non | exact .base (.bl _) | exact .base (.str _) | exact .base (.lst (by ((repeat (first | with_reducible exact upd_same | (with_reducible refine hg_new (by assumption) ?_) | (with_reducible refine hg_ne (by first | assumption | exact Ne.symm (by assumption) | exact ne_of_none (by assumption) (by assumption) | exact Ne.symm (ne_of_none (by assumption) (by assumption))) ?_))); first | done | assumption | exact upd_same))) | exact .base (.tup (by ((repeat (first | with_reducible exact upd_same | (with_reducible refine hg_new (by assumption) ?_) | (with_reducible refine hg_ne (by first | assumption | exact Ne.symm (by assumption) | exact ne_of_none (by assumption) (by assumption) | exact Ne.symm (ne_of_none (by assumption) (by assumption))) ?_))); first | done | assumption | exact upd_same))) | exact .base (.dK (by ((repeat (first | with_reducible exact upd_same | (with_reducible refine hg_new (by assumption) ?_) | (with_reducible refine hg_ne (by first | assumption | exact Ne.symm (by assumption) | exact ne_of_none (by assumption) (by assumption) | exact Ne.symm (ne_of_none (by assumption) (by assumption))) ?_))); first | done | assumption | exact upd_same))))); (focus decide +kernel)) | ((with_reducible apply w_isiT ["list", "tuple"] (r := false)); (focus ((repeat (first | with_reducible exact upd_same | (with_reducible refine hg_new (by assumption) ?_) | (with_reducible refine hg_ne (by first | assumption | exact Ne.symm (by assumption) | exact ne_of_none (by assumption) (by assumption) | exact Ne.symm (ne_of_none (by assumption) (by assumption))) ?_))); first | done | assumption | exact upd_same)); (focus rfl); (focus (first | exact .base (.int _) | exact .base .non | exact .base (.bl _) | exact .base (.str _) | exact .base (.lst (by ((repeat (first | with_reducible exact upd_same | (with_reducible refine hg_new (by assumption) ?_) | (with_reducible refine hg_ne (by first | assumption | exact Ne.symm (by assumption) | exact ne_of_none (by assumption) (by assumption) | exact Ne.symm (ne_of_none (by assumption) (by assumption))) ?_))); first | done | assumption | exact upd_same))) | exact .base (.tup (by ((repeat (first | with_reducible exact upd_same | (with_reducible refine hg_new (by assumption) ?_) | (with_reducible refine hg_ne (by first | assumption | exact Ne.symm (by assumption) | exact ne_of_none (by assumption) (by assumption) | exact Ne.symm (ne_of_none (by assumption) (by assumption))) ?_))); first | done | assumption | exact upd_same))) | exact .base (.dK (by ((repeat (first | with_reducible exact upd_same | (with_reducible refine hg_new (by assumption) ?_) | (with_reducible refine hg_ne (by first | assumption | exact Ne.symm (by assumption) | exact ne_of_none (by assumption) (by assumption) | exact Ne.symm (ne_of_none (by assumption) (by assumption))) ?_))); first | done | assumption | exact upd_same))))); (focus decide +kernel)) | ((with_reducible apply w_isiT ["bool", "int", "list", "tuple", "dict"] (r := true)); (focus ((repeat (first | with_reducible exact upd_same | (with_reducible refine hg_new (by assumption) ?_) | (with_reducible refine hg_ne (by first | assumption | exact Ne.symm (by assumption) | exact ne_of_none (by assumption) (by assumption) | exact Ne.symm (ne_of_none (by assumption) (by assumption))) ?_))); first | done | assumption | exact upd_same)); (focus rfl); (focus (first | exact .base (.int _) | exact .base .non | exact .base (.bl _) | exact .base (.str _) | exact .base (.lst (by ((repeat (first | with_reducible exact upd_same | (with_reducible refine hg_new (by assumption) ?_) | (with_reducible refine hg_ne (by first | assumption | exact Ne.symm (by assumption) | exact ne_of_none (by assumption) (by assumption) | exact Ne.symm (ne_of_none (by assumption) (by assumption))) ?_))); first | done | assumption | exact upd_same))) | exact .base (.tup (by ((repeat (first | with_reducible exact upd_same | (with_reducible refine hg_new (by assumption) ?_) | (with_reducible refine hg_ne (by first | assumption | exact Ne.symm (by assumption) | exact ne_of_none (by assumption) (by assumption) | exact Ne.symm (ne_of_none (by assumption) (by assumption))) ?_))); first | done | assumption | exact upd_same))) | exact .base (.dK (by ((repeat (first | with_reducible exact upd_same | (with_reducible refine hg_new (by assumption) ?_) | (with_reducible refine hg_ne (by first | assumption | exact Ne.symm (by assumption) | exact ne_of_none (by assumption) (by assumption) | exact Ne.symm (ne_of_none (by assumption) (by assumption))) ?_))); first | done | assumption | exact upd_same))))); (focus decide +kernel)) | ((with_reducible apply w_isiT ["bool", "int", "list", "tuple", "dict"] (r := false)); (focus ((repeat (first | with_reducible exact upd_same | (with_reducible refine hg_new (by assumption) ?_) | (with_reducible refine hg_ne (by first | assumption | exact Ne.symm (by assumption) | exact ne_of_none (by assumption) (by assumption) | exact Ne.symm (ne_of_none (by assumption) (by assumption))) ?_))); first | done | assumption | exact upd_same)); (focus rfl); (focus (first | exact .base (.int _) | exact .base .non | exact .base (.bl _) | exact .base (.str _) | exact .base (.lst (by ((repeat (first | with_reducible exact upd_same | (with_reducible refine hg_new (by assumption) ?_) | (with_reducible refine hg_ne (by first | assumption | exact Ne.symm (by assumption) | exact ne_of_none (by assumption) (by assumption) | exact Ne.symm (ne_of_none (by assumption) (by assumption))) ?_))); first | done | assumption | exact upd_same))) | exact .base (.tup (by ((repeat (first | with_reducible exact upd_same | (with_reducible refine hg_new (by assumption) ?_) | (with_reducible refine hg_ne (by first | assumption | exact Ne.symm (by assumption) | exact ne_of_none (by assumption) (by assumption) | exact Ne.symm (ne_of_none (by assumption) (by assumption))) ?_))); first | done | assumption | exact upd_same))) | exact .base (.dK (by ((repeat (first | with_reducible exact upd_same | (with_reducible refine hg_new (by assumption) ?_) | (with_reducible refine hg_ne (by first | assumption | exact Ne.symm (by assumption) | exact ne_of_none (by assumption) (by assumption) | exact Ne.symm (ne_of_none (by assumption) (by assumption))) ?_))); first | done | assumption | exact upd_same))))); (focus decide +kernel)))))
local macro_rules | `(tactic| and_intros) => `(tactic| ((repeat (first | with_reducible exact upd_same | (with_reducible refine hg_new (by assumption) ?_) | (with_reducible refine hg_ne (by first | assumption | exact Ne.symm (by assumption) | exact ne_of_none (by assumption) (by assumption) | exact Ne.symm (ne_of_none (by assumption) (by assumption))) ?_))); first | done | assumption | exact upd_same))
local macro_rules | `(tactic| ac_rfl) => `(tactic| (repeat (first | with_reducible exact Same.refl _ | (with_reducible refine Same.trans ?_ (Same.new (by assumption))))))

theorem roomGs {k : Nat} {X : Cx} {g : List Code} (r : Room k X.A) : Room k (Cx.gs X g).A := ⟨r.hd, r.dp, r.un⟩
def lamT (Pt : Addr) : List (Addr × Str) := [(Pt, ("law" : Str) ++ ".<locals>." ++ "<lambda>")]

/-- what is not a table stays -/
def KeepN (H H' : Hp) : Prop := ∀ b o, H b = some o → (∀ ps, o ≠ .tbl ps) → H' b = some o
theorem KeepN.of {H H' : Hp} (e : Same H H') : KeepN H H' := fun b o h _ => e b o h
theorem Odd.keep {H H' : Hp} {x : V} (e : KeepN H H') (h : Odd H x) : Odd H' x := by
  cases h with
  | int i h => exact .int i h
  | bl b => exact .bl b
  | non => exact .non
  | str x h => exact .str x h
  | lst h1 h2 h3 => exact .lst (e _ _ h1 (fun _ z => by cases z)) h2 h3
  | tup0 h1 => exact .tup0 (e _ _ h1 (fun _ z => by cases z))
  | tup1 h1 h2 h3 => exact .tup1 (e _ _ h1 (fun _ z => by cases z)) h2 h3
  | dct h1 => exact .dct (e _ _ h1 (fun _ z => by cases z))
theorem txR_keep {g : List Code} {H H' : Hp} {x : V} (e : KeepN H H') (h : Odd H x) : txR g H' x = txR g H x := by
  cases h with
  | int i h => rfl
  | bl b => rfl
  | non => rfl
  | str x h => rfl
  | lst h1 h2 h3 => unfold txR; simp only [h1, e _ _ h1 (fun _ z => by cases z)]
  | tup0 h1 => unfold txR; simp only [h1, e _ _ h1 (fun _ z => by cases z)]
  | tup1 h1 h2 h3 => unfold txR; simp only [h1, e _ _ h1 (fun _ z => by cases z)]
  | dct h1 => unfold txR; simp only [h1, e _ _ h1 (fun _ z => by cases z)]
theorem Tabs.keep {T : List (Addr × Str)} {H H' : Hp} (t : LamX.Tabs T H) (f : ∀ b o, (∀ ys, o ≠ .lst ys) → H b = some o → H' b = some o) : LamX.Tabs T H' := fun q hq => by
  obtain ⟨ps, e1, e2, e3⟩ := t q hq
  refine ⟨ps, f _ _ (fun _ z => by cases z) e1, e2, fun pos cv hc => ?_⟩
  obtain ⟨c, a, b⟩ := e3 pos cv hc
  exact ⟨c, a, f _ _ (fun _ z => by unfold LamX.CodeO at z; cases z) b⟩
/-- the places and the values that are drawn now and then -/
def oddK (m : Int) (a1 a2 a3 : Addr) : List V := [.int (-1), .int (-2), .int m, .int (m + 1), .int (64 * 2 ^ Int.toNat 64), .int (-64 * 2 ^ Int.toNat 64), .bl true, .bl false, .non, .str "0", .str "", .ref a1, .ref a2, .ref a3]
def valK (b1 b2 : Addr) : List V := [.int 256, .int (-1), .int (64 * 2 ^ Int.toNat 64), .bl true, .non, .str "7", .ref b1, .ref b2]
theorem log_small {i : Int} (h0 : 0 ≤ i) (h1 : i < 1000) : i.natAbs.log2 < 1920 := by
  obtain ⟨n, rfl⟩ := Int.eq_ofNat_of_zero_le h0
  rw [Int.natAbs_natCast]
  have : ∀ n : Nat, n < 1000 → n.log2 < 1920 := by decide +kernel
  exact this n (by omega)
theorem odd_small {H : Hp} {i : Int} (h0 : 0 ≤ i) (h1 : i < 1000) : Odd H (.int i) := .int i (log_small h0 h1)
theorem oddK_all {H : Hp} {m : Nat} {a1 a2 a3 : Addr} (hm : m < 900) (h1 : H a1 = some (.lst [.int 0])) (h2 : H a2 = some (.tup [.int 0])) (h3 : H a3 = some (.dK [])) {y : V} (h : y ∈ oddK m a1 a2 a3) : Odd H y := by
  simp only [oddK, List.mem_cons, List.not_mem_nil, or_false] at h
  rcases h with rfl | rfl | rfl | rfl | rfl | rfl | rfl | rfl | rfl | rfl | rfl | rfl | rfl | rfl
  · exact .int _ (by decide +kernel)
  · exact .int _ (by decide +kernel)
  · exact odd_small (by omega) (by omega)
  · exact odd_small (by omega) (by omega)
  · exact .int _ (by decide +kernel)
  · exact .int _ (by decide +kernel)
  · exact .bl _
  · exact .bl _
  · exact .non
  · exact .str _ (by decide +kernel)
  · exact .str _ (by decide +kernel)
  · exact .lst h1 (by decide +kernel) (by decide +kernel)
  · exact .tup1 h2 (by decide +kernel) (by decide +kernel)
  · exact .dct h3
theorem valK_all {H : Hp} {b1 b2 : Addr} (h1 : H b1 = some (.lst [.int 7])) (h2 : H b2 = some (.tup [])) {y : V} (h : y ∈ valK b1 b2) : Odd H y := by
  simp only [valK, List.mem_cons, List.not_mem_nil, or_false] at h
  rcases h with rfl | rfl | rfl | rfl | rfl | rfl | rfl | rfl
  · exact .int _ (by decide +kernel)
  · exact .int _ (by decide +kernel)
  · exact .int _ (by decide +kernel)
  · exact .bl _
  · exact .non
  · exact .str _ (by decide +kernel)
  · exact .lst h1 (by decide +kernel) (by decide +kernel)
  · exact .tup0 h2
/-- which of the lists are unlike -/
structure Apart (st ls r l od a1 vl b1 : Addr) : Prop where
  qr : r ≠ st ∧ r ≠ ls
  ql : l ≠ st ∧ l ≠ ls
  qo : (od ≠ st ∧ od ≠ ls) ∧ od ≠ r ∧ od ≠ l
  qa : (a1 ≠ st ∧ a1 ≠ ls) ∧ a1 ≠ r ∧ a1 ≠ l
  qv : (vl ≠ st ∧ vl ≠ ls) ∧ vl ≠ r ∧ vl ≠ l
  qb : (b1 ≠ st ∧ b1 ≠ ls) ∧ b1 ≠ r ∧ b1 ≠ l
  qrl : r ≠ l
/-- what stands there between two deeds: rows, the memory's own octets, n draws -/
structure Deed (C Pt st ls r p l od a1 a2 a3 vl b1 b2 : Addr) (m : Nat) (H : Hp) (n : Nat) (xs ys : List Int) : Prop where
  hs : StrAt H st ls n
  ht : LamX.Tabs (lamT Pt) H
  hr : H r = some (.lst (xs.map V.int))
  hp : ∃ dx, H p = some (.ins C dx [("cells", .ref l)])
  hl : H l = some (.lst (ys.map V.int))
  ho : H od = some (.lst (oddK m a1 a2 a3))
  ho1 : H a1 = some (.lst [.int 0])
  ho2 : H a2 = some (.tup [.int 0])
  ho3 : H a3 = some (.dK [])
  hv : H vl = some (.lst (valK b1 b2))
  hv1 : H b1 = some (.lst [.int 7])
  hv2 : H b2 = some (.tup [])
section
variable {C Pt st ls r p l od a1 a2 a3 vl b1 b2 : Addr} {m n n' : Nat} {H H' : Hp} {xs ys zs : List Int}
theorem Deed.mem (d : Deed C Pt st ls r p l od a1 a2 a3 vl b1 b2 m H n xs ys) : MemAt H C p l ys := by
  obtain ⟨dx, hp⟩ := d.hp
  refine ⟨fun e => ?_, dx, hp, d.hl⟩
  rw [e, d.hl] at hp
  cases hp
theorem Deed.mv (d : Deed C Pt st ls r p l od a1 a2 a3 vl b1 b2 m H n xs ys) (ap : Apart st ls r l od a1 vl b1) (f : ∀ b o, b ≠ st → b ≠ ls → H b = some o → (∀ ps, o ≠ .tbl ps) → H' b = some o) (s' : StrAt H' st ls n') (t' : LamX.Tabs (lamT Pt) H') : Deed C Pt st ls r p l od a1 a2 a3 vl b1 b2 m H' n' xs ys := by
  obtain ⟨_, _, _, _, _, hst, hls, _⟩ := id d.hs
  have kp : ∀ b o, (∀ ys, o ≠ .lst ys) → (∀ ps, o ≠ .tbl ps) → H b = some o → H' b = some o := fun b o h1 h2 hb => f b o (fun e => h1 _ (by rw [e, hst] at hb; exact (Option.some.inj hb).symm)) (fun e => h1 _ (by rw [e, hls] at hb; exact (Option.some.inj hb).symm)) hb h2
  have kl : ∀ b ys, b ≠ st ∧ b ≠ ls → H b = some (.lst ys) → H' b = some (.lst ys) := fun b ys h hb => f b _ h.1 h.2 hb (fun ps e => by cases e)
  exact ⟨s', t', kl _ _ ap.qr d.hr, let ⟨dx, h⟩ := d.hp; ⟨dx, kp _ _ (fun _ z => by cases z) (fun _ z => by cases z) h⟩, kl _ _ ap.ql d.hl, kl _ _ ap.qo.1 d.ho, kl _ _ ap.qa.1 d.ho1, kp _ _ (fun _ z => by cases z) (fun _ z => by cases z) d.ho2, kp _ _ (fun _ z => by cases z) (fun _ z => by cases z) d.ho3, kl _ _ ap.qv.1 d.hv, kl _ _ ap.qb.1 d.hv1, kp _ _ (fun _ z => by cases z) (fun _ z => by cases z) d.hv2⟩
theorem Deed.fr (d : Deed C Pt st ls r p l od a1 a2 a3 vl b1 b2 m H n xs ys) (ap : Apart st ls r l od a1 vl b1) (s' : StrAt H' st ls n') (f : Fr st ls H H') : Deed C Pt st ls r p l od a1 a2 a3 vl b1 b2 m H' n' xs ys := d.mv ap (fun b o h1 h2 h _ => f b o h1 h2 h) s' (Tabs.fr d.ht d.hs f)
theorem Deed.same (d : Deed C Pt st ls r p l od a1 a2 a3 vl b1 b2 m H n xs ys) (ap : Apart st ls r l od a1 vl b1) (f : Same H H') : Deed C Pt st ls r p l od a1 a2 a3 vl b1 b2 m H' n xs ys := d.mv ap (fun b o _ _ h _ => f b o h) (d.hs.fr f) (d.ht.ext f)
theorem Deed.ext (d : Deed C Pt st ls r p l od a1 a2 a3 vl b1 b2 m H n xs ys) (ap : Apart st ls r l od a1 vl b1) (f : LamX.ExtN H H') (t' : LamX.Tabs (lamT Pt) H') : Deed C Pt st ls r p l od a1 a2 a3 vl b1 b2 m H' n xs ys := by
  refine d.mv ap (fun b o _ _ h n => f b o h n) ?_ t'
  obtain ⟨hne, xs, x, c, k, h1, h2, q⟩ := id d.hs
  exact ⟨hne, xs, x, c, k, f _ _ h1 (fun _ z => by cases z), f _ _ h2 (fun _ z => by cases z), q⟩
theorem Deed.up (d : Deed C Pt st ls r p l od a1 a2 a3 vl b1 b2 m H n xs ys) (h : n ≤ n') : Deed C Pt st ls r p l od a1 a2 a3 vl b1 b2 m H n' xs ys := ⟨d.hs.up h, d.ht, d.hr, d.hp, d.hl, d.ho, d.ho1, d.ho2, d.ho3, d.hv, d.hv1, d.hv2⟩
/-- the memory's octets are set -/
theorem Deed.wl (d : Deed C Pt st ls r p l od a1 a2 a3 vl b1 b2 m H n xs ys) (ap : Apart st ls r l od a1 vl b1) (f : ∀ b o, b ≠ l → H b = some o → H' b = some o) (h : H' l = some (.lst (zs.map V.int))) : Deed C Pt st ls r p l od a1 a2 a3 vl b1 b2 m H' n xs zs := by
  have kp : ∀ b o, (∀ ys, o ≠ .lst ys) → H b = some o → H' b = some o := fun b o h1 hb => f b o (fun e => h1 _ (by rw [e, d.hl] at hb; exact (Option.some.inj hb).symm)) hb
  obtain ⟨hne, xs', x, c, k, h1, h2, q⟩ := id d.hs
  exact ⟨⟨hne, xs', x, c, k, f _ _ (Ne.symm ap.ql.1) h1, f _ _ (Ne.symm ap.ql.2) h2, q⟩, Tabs.keep d.ht kp, f _ _ ap.qrl d.hr, let ⟨dx, h⟩ := d.hp; ⟨dx, kp _ _ (fun _ z => by cases z) h⟩, h, f _ _ ap.qo.2.2 d.ho, f _ _ ap.qa.2.2 d.ho1, kp _ _ (fun _ z => by cases z) d.ho2, kp _ _ (fun _ z => by cases z) d.ho3, f _ _ ap.qv.2.2 d.hv, f _ _ ap.qb.2.2 d.hv1, kp _ _ (fun _ z => by cases z) d.hv2⟩
def Drawn (L : List V) (x : V) : Prop := x ∈ L ∨ ∃ v : Int, x = .int v ∧ 0 ≤ v ∧ v < 1000
theorem Deed.oddX (d : Deed C Pt st ls r p l od a1 a2 a3 vl b1 b2 m H n xs ys) (hm : m < 900) {x : V} (h : Drawn (oddK m a1 a2 a3) x) : Odd H x := by
  rcases h with h | ⟨v, rfl, h0, h1⟩
  · exact oddK_all hm d.ho1 d.ho2 d.ho3 h
  · exact odd_small h0 h1
theorem Deed.oddY (d : Deed C Pt st ls r p l od a1 a2 a3 vl b1 b2 m H n xs ys) {x : V} (h : Drawn (valK b1 b2) x) : Odd H x := by
  rcases h with h | ⟨v, rfl, h0, h1⟩
  · exact valK_all d.hv1 d.hv2 h
  · exact odd_small h0 h1
/-- the rows are set -/
theorem Deed.wr (d : Deed C Pt st ls r p l od a1 a2 a3 vl b1 b2 m H n xs ys) (ap : Apart st ls r l od a1 vl b1) : Deed C Pt st ls r p l od a1 a2 a3 vl b1 b2 m (upd H r (.lst (zs.map V.int))) n zs ys := by
  have f : ∀ b o, b ≠ r → H b = some o → upd H r (.lst (zs.map V.int)) b = some o := fun b o h hb => by rw [upd_ne h]; exact hb
  have kp : ∀ b o, (∀ ys, o ≠ .lst ys) → H b = some o → upd H r (.lst (zs.map V.int)) b = some o := fun b o h1 hb => f b o (fun e => h1 _ (by rw [e, d.hr] at hb; exact (Option.some.inj hb).symm)) hb
  obtain ⟨hne, xs', x, c, k, h1, h2, q⟩ := id d.hs
  exact ⟨⟨hne, xs', x, c, k, f _ _ (Ne.symm ap.qr.1) h1, f _ _ (Ne.symm ap.qr.2) h2, q⟩, Tabs.keep d.ht kp, upd_same, let ⟨dx, h⟩ := d.hp; ⟨dx, kp _ _ (fun _ z => by cases z) h⟩, f _ _ (Ne.symm ap.qrl) d.hl, f _ _ ap.qo.2.1 d.ho, f _ _ ap.qa.2.1 d.ho1, kp _ _ (fun _ z => by cases z) d.ho2, kp _ _ (fun _ z => by cases z) d.ho3, f _ _ ap.qv.2.1 d.hv, f _ _ ap.qb.2.1 d.hv1, kp _ _ (fun _ z => by cases z) d.hv2⟩
end
theorem rep_ints {H : Hp} {a b : Addr} {xs : List Int} (h1 : H a = some (.lst (xs.map V.int))) (h2 : H b = some (.lst (xs.map V.int))) (hz : xs.length ≤ 1000) : Rep H 2 (.ref a) (.ref b) :=
  .lst h1 h2 rfl (by rw [List.length_map]; omega) fun i x y hx hy => by
    rw [hx] at hy
    cases hy
    obtain ⟨z, rfl, _⟩ := get_map hx
    exact .int z
theorem rep_pair {H : Hp} {a b : Addr} {t : Str} {x : V} (h1 : H a = some (.tup [.str t, x])) (h2 : H b = some (.tup [.str t, x])) (hx : Rep H 1 x x) : Rep H 2 (.ref a) (.ref b) :=
  .tup h1 h2 rfl (by show 2 ≤ 1000000; decide) fun i u v hu hv => by
    rw [hu] at hv
    cases hv
    match i, hu with
    | 0, hu => cases hu; exact .str t
    | 1, hu => cases hu; exact hx
theorem map_inj {xs ys : List Int} (h : xs.map V.int = ys.map V.int) : xs = ys := by
  induction xs generalizing ys with
  | nil => cases ys with
    | nil => rfl
    | cons y r => cases h
  | cons x r ih => cases ys with
    | nil => cases h
    | cons y s =>
      injection h with h1 h2
      rw [V.int.inj h1, ih h2]
theorem mk_list {C CB a : Addr} {H : Hp} {xs : List Int} {Q : VK} {E : XK} (ha : H a = some (.lst (xs.map V.int)) ∨ H a = some (.tup (xs.map V.int))) (ho : ∀ x ∈ xs, isOct x) (k : ∀ p l H', MemAt H' C p l xs → Same H H' → H p = none → H l = none → Q (.ref p) H') : MakeR C (spMem C CB) [.ref a] H Q E := by
  intro p dx hp hdx hne
  have hap : a ≠ p := by rcases ha with h | h <;> exact ne_of_none h hp
  have sm : Same H (upd (upd H dx (.own p)) p (.ins C dx [])) := fun b o hb => by rw [upd_ne (ne_of_none hb hp), upd_ne (ne_of_none hb hdx)]; exact hb
  refine ⟨p, dx, .ref a, rfl, upd_same, .inr ⟨a, _, rfl, hap, ⟨ha.imp (sm _ _) (sm _ _), fun x hx => ?_⟩, ?_, fun ns ens hns l H' hl hM fr => ⟨rfl, ?_⟩⟩⟩
  · obtain ⟨u, _, rfl⟩ := List.mem_map.mp hx
    exact ⟨_, .int u⟩
  · intro i x hix hox
    obtain ⟨u, rfl, hu⟩ := get_map hix
    have := ho u hu
    have e : octV (.int u) = true := decide_eq_true (by unfold isOct at this; omega)
    rw [e] at hox; cases hox
  · obtain rfl := map_inj ens
    exact k p l H' hM (fun b o hb => fr b o (ne_of_none hb hp) (sm b o hb)) hp (sm.free hl)
theorem mk_int {C CB : Addr} {H : Hp} {n : Nat} {Q : VK} {E : XK} (hn : n ≤ 1000) (k : ∀ p l H', MemAt H' C p l (List.replicate n 0) → Same H H' → H p = none → H l = none → Q (.ref p) H') : MakeR C (spMem C CB) [.int n] H Q E := by
  intro p dx hp hdx hne
  have sm : Same H (upd (upd H dx (.own p)) p (.ins C dx [])) := fun b o hb => by rw [upd_ne (ne_of_none hb hp), upd_ne (ne_of_none hb hdx)]; exact hb
  exact ⟨p, dx, _, rfl, upd_same, .inl ⟨n, rfl, hn, fun l H' hl hM fr => ⟨rfl, k p l H' hM (fun b o hb => fr b o (ne_of_none hb hp) (sm b o hb)) hp (sm.free hl)⟩⟩⟩
theorem adr_true {n : Nat} {x : V} (h : adrV (n : Int) x = true) : ∃ t : Nat, x = .int t ∧ t < n := by
  cases x with
  | int i =>
    have := of_decide_eq_true h
    obtain ⟨t, rfl⟩ := Int.eq_ofNat_of_zero_le this.1
    exact ⟨t, rfl, by omega⟩
  | _ => cases h
theorem adr_oct {x : V} : adrV (256 : Int) x = octV x := by
  cases x with
  | int i => exact decide_eq_decide.mpr ⟨fun h => ⟨h.1, by omega⟩, fun h => ⟨h.1, by omega⟩⟩
  | _ => rfl
theorem ne_of_some {H : Hp} {a b : Addr} {o u : HO} (h : H a = some o) (k : H b = some u) (n : o ≠ u) : a ≠ b := fun e => n (Option.some.inj (by rw [← h, ← k, e]))
theorem w_TTold {CA CB : Addr} {g : List Code} {tl : XK → Hp → VK → Prop} {H : Hp} {Q : VK} (h : tl (ToldE CA CB g Q) H fun v H1 => ∀ q, H1 q = none → Q (.ref q) (upd H1 q (.tup [.str "told", v]))) : TTold CA CB g tl H Q := h
def spLaw (K : PySem.W.Frag) (Pt : Addr) : Sp := fun vs H Q _ => ∃ (a : Addr) (ns : List Int), vs = [.ref a] ∧ SqL K H a (ns.map V.int) ∧ ns.length ≤ 63 ∧ H Pt = some (.tbl #[]) ∧ ∀ H', Q (.bl true) H'

local macro_rules | `(tactic| left) => `(tactic| (repeat (first | with_reducible refine w_seq ?_ | with_reducible refine w_next ?_ | with_reducible refine w_asg ?_ | with_reducible refine w_drop ?_ | with_reducible refine w_ret ?_ | with_reducible refine w_if ?_ | with_reducible refine w_name ?_ | with_reducible refine w_sub ?_ | with_reducible refine w_c ?_ | with_reducible refine w_op ?_ | with_reducible refine w_un ?_ | with_reducible refine w_U ?_ | with_reducible refine w_I0 ?_ | with_reducible refine w_test ?_ | with_reducible refine w_B ?_ | with_reducible refine w_bl ?_ | with_reducible refine w_not ?_ | with_reducible refine w_and ?_ | with_reducible refine w_or ?_ | with_reducible refine w_ifE ?_ | with_reducible refine w_andV ?_ | with_reducible refine w_orV ?_ | with_reducible refine w_notV ?_ | with_reducible refine w_chain ?_ | with_reducible refine w_nil ?_ | with_reducible refine w_cons ?_ | with_reducible refine w_lst ?_ | with_reducible refine w_tup ?_ | with_reducible refine w_cb ?_ | with_reducible refine w_bm ?_ | with_reducible refine w_call ?_ | with_reducible refine w_int1 ?_ | with_reducible refine w_max ?_ | with_reducible refine w_min ?_ | with_reducible refine w_lc ?_ | with_reducible refine w_for ?_ | with_reducible refine w_rng1 ?_ | with_reducible refine w_listI ?_ | with_reducible refine w_tupI ?_ | with_reducible refine w_zipI ?_ | with_reducible refine w_yes ?_ | with_reducible refine w_turn ?_ | with_reducible refine iteT ?_ | with_reducible refine iteF ?_ | with_reducible refine w_gcons ?_ | with_reducible refine w_gnil ?_ | with_reducible refine w_fld ?_ | with_reducible refine w_sfld ?_ | with_reducible refine w_make ?_ | with_reducible refine w_meth ?_ | with_reducible refine w_gsl ?_ | with_reducible refine w_err ?_ | with_reducible refine w_sl ?_ | with_reducible refine w_part ?_ | with_reducible refine w_nopart ?_ | with_reducible refine w_partGo ?_ | with_reducible refine w_methW ?_ | with_reducible refine w_xf ?_ | with_reducible refine w_isB ?_ | with_reducible refine w_iteSame ?_ | with_reducible refine w_iteNSame ?_ | with_reducible refine w_iteNT ?_ | with_reducible refine w_iteNF ?_ | with_reducible refine w_ipI ?_ | with_reducible refine w_isN ?_ | with_reducible refine w_notN ?_ | with_reducible refine w_iteIntNon ?_ | with_reducible refine w_iteNIntNon ?_ | with_reducible refine w_iteNonInt ?_ | with_reducible refine w_par ?_ | with_reducible refine w_par3 ?_ | with_reducible refine w_parGo ?_ | with_reducible refine w_parGo3 ?_ | with_reducible refine w_makeW ?_ | with_reducible refine w_callS ?_ | with_reducible refine w_prop ?_ | with_reducible refine w_item ?_ | with_reducible refine w_gitem ?_ | ((with_reducible apply w_var); (focus rfl)) | ((with_reducible apply w_aug); (focus rfl)) | ((with_reducible refine w_iteStrNe ?_ ?_); (focus decide +kernel)) | ((with_reducible refine w_iteNStrNe ?_ ?_); (focus decide +kernel)) | ((with_reducible refine w_eq ?_ ?_); (focus rfl)) | ((with_reducible refine w_ne ?_ ?_); (focus rfl)) | ((with_reducible apply w_ixL); (focus ((repeat (first | with_reducible exact upd_same | (with_reducible refine hg_new (by assumption) ?_) | (with_reducible refine hg_ne (by first | assumption | exact Ne.symm (by assumption) | exact ne_of_none (by assumption) (by assumption) | exact Ne.symm (ne_of_none (by assumption) (by assumption))) ?_))); first | done | assumption | exact upd_same)); (focus rfl)) | ((with_reducible apply w_ixT); (focus ((repeat (first | with_reducible exact upd_same | (with_reducible refine hg_new (by assumption) ?_) | (with_reducible refine hg_ne (by first | assumption | exact Ne.symm (by assumption) | exact ne_of_none (by assumption) (by assumption) | exact Ne.symm (ne_of_none (by assumption) (by assumption))) ?_))); first | done | assumption | exact upd_same)); (focus rfl)) | ((with_reducible apply w_setL); (focus ((repeat (first | with_reducible exact upd_same | (with_reducible refine hg_new (by assumption) ?_) | (with_reducible refine hg_ne (by first | assumption | exact Ne.symm (by assumption) | exact ne_of_none (by assumption) (by assumption) | exact Ne.symm (ne_of_none (by assumption) (by assumption))) ?_))); first | done | assumption | exact upd_same)); (focus rfl)) | ((with_reducible apply w_len); (focus ((repeat (first | with_reducible exact upd_same | (with_reducible refine hg_new (by assumption) ?_) | (with_reducible refine hg_ne (by first | assumption | exact Ne.symm (by assumption) | exact ne_of_none (by assumption) (by assumption) | exact Ne.symm (ne_of_none (by assumption) (by assumption))) ?_))); first | done | assumption | exact upd_same))) | ((with_reducible apply w_lenT); (focus ((repeat (first | with_reducible exact upd_same | (with_reducible refine hg_new (by assumption) ?_) | (with_reducible refine hg_ne (by first | assumption | exact Ne.symm (by assumption) | exact ne_of_none (by assumption) (by assumption) | exact Ne.symm (ne_of_none (by assumption) (by assumption))) ?_))); first | done | assumption | exact upd_same))) | ((with_reducible apply w_list); (focus ((repeat (first | with_reducible exact upd_same | (with_reducible refine hg_new (by assumption) ?_) | (with_reducible refine hg_ne (by first | assumption | exact Ne.symm (by assumption) | exact ne_of_none (by assumption) (by assumption) | exact Ne.symm (ne_of_none (by assumption) (by assumption))) ?_))); first | done | assumption | exact upd_same))) | ((with_reducible apply w_fldGo); (focus ((repeat (first | with_reducible exact upd_same | (with_reducible refine hg_new (by assumption) ?_) | (with_reducible refine hg_ne (by first | assumption | exact Ne.symm (by assumption) | exact ne_of_none (by assumption) (by assumption) | exact Ne.symm (ne_of_none (by assumption) (by assumption))) ?_))); first | done | assumption | exact upd_same)); (focus assumption); (focus assumption); (focus (first | exact lk_one | (focus (simp [List.lookup]; done)) | rfl))) | ((with_reducible apply w_sfldGo); (focus ((repeat (first | with_reducible exact upd_same | (with_reducible refine hg_new (by assumption) ?_) | (with_reducible refine hg_ne (by first | assumption | exact Ne.symm (by assumption) | exact ne_of_none (by assumption) (by assumption) | exact Ne.symm (ne_of_none (by assumption) (by assumption))) ?_))); first | done | assumption | exact upd_same)); (focus assumption); (focus assumption); (focus decide)) | ((with_reducible apply w_methGo); (focus ((repeat (first | with_reducible exact upd_same | (with_reducible refine hg_new (by assumption) ?_) | (with_reducible refine hg_ne (by first | assumption | exact Ne.symm (by assumption) | exact ne_of_none (by assumption) (by assumption) | exact Ne.symm (ne_of_none (by assumption) (by assumption))) ?_))); first | done | assumption | exact upd_same)); (focus first | exact lk_no (by decide +kernel) | rfl | (simp [List.lookup]; done))) | ((with_reducible apply w_xfGo); (focus ((repeat (first | with_reducible exact upd_same | (with_reducible refine hg_new (by assumption) ?_) | (with_reducible refine hg_ne (by first | assumption | exact Ne.symm (by assumption) | exact ne_of_none (by assumption) (by assumption) | exact Ne.symm (ne_of_none (by assumption) (by assumption))) ?_))); first | done | assumption | exact upd_same)); (focus (first | exact lk_one | (focus (simp [List.lookup]; done)) | rfl))) | ((with_reducible apply w_isi (r := true)); (focus (first | exact .base (.int _) | exact .base .non | exact .base (.bl _) | exact .base (.str _) | exact .base (.lst (by ((repeat (first | with_reducible exact upd_same | (with_reducible refine hg_new (by assumption) ?_) | (with_reducible refine hg_ne (by first | assumption | exact Ne.symm (by assumption) | exact ne_of_none (by assumption) (by assumption) | exact Ne.symm (ne_of_none (by assumption) (by assumption))) ?_))); first | done | assumption | exact upd_same))) | exact .base (.tup (by ((repeat (first | with_reducible exact upd_same | (with_reducible refine hg_new (by assumption) ?_) | (with_reducible refine hg_ne (by first | assumption | exact Ne.symm (by assumption) | exact ne_of_none (by assumption) (by assumption) | exact Ne.symm (ne_of_none (by assumption) (by assumption))) ?_))); first | done | assumption | exact upd_same))) | exact .base (.dK (by ((repeat (first | with_reducible exact upd_same | (with_reducible refine hg_new (by assumption) ?_) | (with_reducible refine hg_ne (by first | assumption | exact Ne.symm (by assumption) | exact ne_of_none (by assumption) (by assumption) | exact Ne.symm (ne_of_none (by assumption) (by assumption))) ?_))); first | done | assumption | exact upd_same))))); (focus decide +kernel)) | ((with_reducible apply w_isi (r := false)); (focus (first | exact .base (.int _) | exact .base .non | exact .base (.bl _) | exact .base (.str _) | exact .base (.lst (by ((repeat (first | with_reducible exact upd_same | (with_reducible refine hg_new (by assumption) ?_) | (with_reducible refine hg_ne (by first | assumption | exact Ne.symm (by assumption) | exact ne_of_none (by assumption) (by assumption) | exact Ne.symm (ne_of_none (by assumption) (by assumption))) ?_))); first | done | assumption | exact upd_same))) | exact .base (.tup (by ((repeat (first | with_reducible exact upd_same | (with_reducible refine hg_new (by assumption) ?_) | (with_reducible refine hg_ne (by first | assumption | exact Ne.symm (by assumption) | exact ne_of_none (by assumption) (by assumption) | exact Ne.symm (ne_of_none (by assumption) (by assumption))) ?_))); first | done | assumption | exact upd_same))) | exact .base (.dK (by ((repeat (first | with_reducible exact upd_same | (with_reducible refine hg_new (by assumption) ?_) | (with_reducible refine hg_ne (by first | assumption | exact Ne.symm (by assumption) | exact ne_of_none (by assumption) (by assumption) | exact Ne.symm (ne_of_none (by assumption) (by assumption))) ?_))); first | done | assumption | exact upd_same))))); (focus decide +kernel)) | ((with_reducible apply w_slL); (focus ((repeat (first | with_reducible exact upd_same | (with_reducible refine hg_new (by assumption) ?_) | (with_reducible refine hg_ne (by first | assumption | exact Ne.symm (by assumption) | exact ne_of_none (by assumption) (by assumption) | exact Ne.symm (ne_of_none (by assumption) (by assumption))) ?_))); first | done | assumption | exact upd_same))) | ((with_reducible apply w_itemGo); (focus ((repeat (first | with_reducible exact upd_same | (with_reducible refine hg_new (by assumption) ?_) | (with_reducible refine hg_ne (by first | assumption | exact Ne.symm (by assumption) | exact ne_of_none (by assumption) (by assumption) | exact Ne.symm (ne_of_none (by assumption) (by assumption))) ?_))); first | done | assumption | exact upd_same))) | ((with_reducible apply w_lenO); (focus ((repeat (first | with_reducible exact upd_same | (with_reducible refine hg_new (by assumption) ?_) | (with_reducible refine hg_ne (by first | assumption | exact Ne.symm (by assumption) | exact ne_of_none (by assumption) (by assumption) | exact Ne.symm (ne_of_none (by assumption) (by assumption))) ?_))); first | done | assumption | exact upd_same))) | ((with_reducible apply w_gtup); (focus ((repeat (first | with_reducible exact upd_same | (with_reducible refine hg_new (by assumption) ?_) | (with_reducible refine hg_ne (by first | assumption | exact Ne.symm (by assumption) | exact ne_of_none (by assumption) (by assumption) | exact Ne.symm (ne_of_none (by assumption) (by assumption))) ?_))); first | done | assumption | exact upd_same)); (focus rfl)) | ((with_reducible apply w_tyL); (focus ((repeat (first | with_reducible exact upd_same | (with_reducible refine hg_new (by assumption) ?_) | (with_reducible refine hg_ne (by first | assumption | exact Ne.symm (by assumption) | exact ne_of_none (by assumption) (by assumption) | exact Ne.symm (ne_of_none (by assumption) (by assumption))) ?_))); first | done | assumption | exact upd_same))) | ((with_reducible apply w_pop0); (focus ((repeat (first | with_reducible exact upd_same | (with_reducible refine hg_new (by assumption) ?_) | (with_reducible refine hg_ne (by first | assumption | exact Ne.symm (by assumption) | exact ne_of_none (by assumption) (by assumption) | exact Ne.symm (ne_of_none (by assumption) (by assumption))) ?_))); first | done | assumption | exact upd_same))) | ((with_reducible apply w_I); (focus first | (show CMul _ _; first | exact .inl ⟨by omega, by omega⟩ | exact .inr ⟨by omega, by omega⟩) | (show CPow _ _; exact ⟨by omega, by omega, by omega⟩) | (show CDivN _ _; exact ⟨by omega, by omega⟩) | omega)))))
local macro_rules | `(tactic| right) => `(tactic| (repeat (first | with_reducible refine w_seq ?_ | with_reducible refine w_next ?_ | with_reducible refine w_asg ?_ | with_reducible refine w_drop ?_ | with_reducible refine w_ret ?_ | with_reducible refine w_if ?_ | with_reducible refine w_name ?_ | with_reducible refine w_sub ?_ | with_reducible refine w_c ?_ | with_reducible refine w_op ?_ | with_reducible refine w_un ?_ | with_reducible refine w_U ?_ | with_reducible refine w_I0 ?_ | with_reducible refine w_test ?_ | with_reducible refine w_B ?_ | with_reducible refine w_bl ?_ | with_reducible refine w_not ?_ | with_reducible refine w_and ?_ | with_reducible refine w_or ?_ | with_reducible refine w_ifE ?_ | with_reducible refine w_andV ?_ | with_reducible refine w_orV ?_ | with_reducible refine w_notV ?_ | with_reducible refine w_chain ?_ | with_reducible refine w_nil ?_ | with_reducible refine w_cons ?_ | with_reducible refine w_lst ?_ | with_reducible refine w_tup ?_ | with_reducible refine w_cb ?_ | with_reducible refine w_bm ?_ | with_reducible refine w_call ?_ | with_reducible refine w_int1 ?_ | with_reducible refine w_max ?_ | with_reducible refine w_min ?_ | with_reducible refine w_lc ?_ | with_reducible refine w_for ?_ | with_reducible refine w_rng1 ?_ | with_reducible refine w_listI ?_ | with_reducible refine w_tupI ?_ | with_reducible refine w_zipI ?_ | with_reducible refine w_yes ?_ | with_reducible refine w_turn ?_ | with_reducible refine iteT ?_ | with_reducible refine iteF ?_ | with_reducible refine w_gcons ?_ | with_reducible refine w_gnil ?_ | with_reducible refine w_fld ?_ | with_reducible refine w_sfld ?_ | with_reducible refine w_make ?_ | with_reducible refine w_meth ?_ | with_reducible refine w_gsl ?_ | with_reducible refine w_err ?_ | with_reducible refine w_sl ?_ | with_reducible refine w_part ?_ | with_reducible refine w_nopart ?_ | with_reducible refine w_partGo ?_ | with_reducible refine w_methW ?_ | with_reducible refine w_xf ?_ | with_reducible refine w_isB ?_ | with_reducible refine w_iteSame ?_ | with_reducible refine w_iteNSame ?_ | with_reducible refine w_iteNT ?_ | with_reducible refine w_iteNF ?_ | with_reducible refine w_ipI ?_ | with_reducible refine w_isN ?_ | with_reducible refine w_notN ?_ | with_reducible refine w_iteIntNon ?_ | with_reducible refine w_iteNIntNon ?_ | with_reducible refine w_iteNonInt ?_ | with_reducible refine w_par ?_ | with_reducible refine w_par3 ?_ | with_reducible refine w_parGo ?_ | with_reducible refine w_parGo3 ?_ | with_reducible refine w_makeW ?_ | with_reducible refine w_callS ?_ | with_reducible refine w_prop ?_ | with_reducible refine w_item ?_ | with_reducible refine w_gitem ?_ | ((with_reducible apply w_var); (focus rfl)) | ((with_reducible apply w_aug); (focus rfl)) | ((with_reducible refine w_iteStrNe ?_ ?_); (focus decide +kernel)) | ((with_reducible refine w_iteNStrNe ?_ ?_); (focus decide +kernel)) | ((with_reducible refine w_eq ?_ ?_); (focus rfl)) | ((with_reducible refine w_ne ?_ ?_); (focus rfl)) | ((with_reducible apply w_ixL); (focus ((repeat (first | with_reducible exact upd_same | (with_reducible refine hg_new (by assumption) ?_) | (with_reducible refine hg_ne (by first | assumption | exact Ne.symm (by assumption) | exact ne_of_none (by assumption) (by assumption) | exact Ne.symm (ne_of_none (by assumption) (by assumption))) ?_))); first | done | assumption | exact upd_same)); (focus rfl)) | ((with_reducible apply w_ixT); (focus ((repeat (first | with_reducible exact upd_same | (with_reducible refine hg_new (by assumption) ?_) | (with_reducible refine hg_ne (by first | assumption | exact Ne.symm (by assumption) | exact ne_of_none (by assumption) (by assumption) | exact Ne.symm (ne_of_none (by assumption) (by assumption))) ?_))); first | done | assumption | exact upd_same)); (focus rfl)) | ((with_reducible apply w_setL); (focus ((repeat (first | with_reducible exact upd_same | (with_reducible refine hg_new (by assumption) ?_) | (with_reducible refine hg_ne (by first | assumption | exact Ne.symm (by assumption) | exact ne_of_none (by assumption) (by assumption) | exact Ne.symm (ne_of_none (by assumption) (by assumption))) ?_))); first | done | assumption | exact upd_same)); (focus rfl)) | ((with_reducible apply w_len); (focus ((repeat (first | with_reducible exact upd_same | (with_reducible refine hg_new (by assumption) ?_) | (with_reducible refine hg_ne (by first | assumption | exact Ne.symm (by assumption) | exact ne_of_none (by assumption) (by assumption) | exact Ne.symm (ne_of_none (by assumption) (by assumption))) ?_))); first | done | assumption | exact upd_same))) | ((with_reducible apply w_lenT); (focus ((repeat (first | with_reducible exact upd_same | (with_reducible refine hg_new (by assumption) ?_) | (with_reducible refine hg_ne (by first | assumption | exact Ne.symm (by assumption) | exact ne_of_none (by assumption) (by assumption) | exact Ne.symm (ne_of_none (by assumption) (by assumption))) ?_))); first | done | assumption | exact upd_same))) | ((with_reducible apply w_list); (focus ((repeat (first | with_reducible exact upd_same | (with_reducible refine hg_new (by assumption) ?_) | (with_reducible refine hg_ne (by first | assumption | exact Ne.symm (by assumption) | exact ne_of_none (by assumption) (by assumption) | exact Ne.symm (ne_of_none (by assumption) (by assumption))) ?_))); first | done | assumption | exact upd_same))) | ((with_reducible apply w_fldGo); (focus ((repeat (first | with_reducible exact upd_same | (with_reducible refine hg_new (by assumption) ?_) | (with_reducible refine hg_ne (by first | assumption | exact Ne.symm (by assumption) | exact ne_of_none (by assumption) (by assumption) | exact Ne.symm (ne_of_none (by assumption) (by assumption))) ?_))); first | done | assumption | exact upd_same)); (focus assumption); (focus assumption); (focus (first | exact lk_one | (focus (simp [List.lookup]; done)) | rfl))) | ((with_reducible apply w_sfldGo); (focus ((repeat (first | with_reducible exact upd_same | (with_reducible refine hg_new (by assumption) ?_) | (with_reducible refine hg_ne (by first | assumption | exact Ne.symm (by assumption) | exact ne_of_none (by assumption) (by assumption) | exact Ne.symm (ne_of_none (by assumption) (by assumption))) ?_))); first | done | assumption | exact upd_same)); (focus assumption); (focus assumption); (focus decide)) | ((with_reducible apply w_methGo); (focus ((repeat (first | with_reducible exact upd_same | (with_reducible refine hg_new (by assumption) ?_) | (with_reducible refine hg_ne (by first | assumption | exact Ne.symm (by assumption) | exact ne_of_none (by assumption) (by assumption) | exact Ne.symm (ne_of_none (by assumption) (by assumption))) ?_))); first | done | assumption | exact upd_same)); (focus first | exact lk_no (by decide +kernel) | rfl | (simp [List.lookup]; done))) | ((with_reducible apply w_xfGo); (focus ((repeat (first | with_reducible exact upd_same | (with_reducible refine hg_new (by assumption) ?_) | (with_reducible refine hg_ne (by first | assumption | exact Ne.symm (by assumption) | exact ne_of_none (by assumption) (by assumption) | exact Ne.symm (ne_of_none (by assumption) (by assumption))) ?_))); first | done | assumption | exact upd_same)); (focus (first | exact lk_one | (focus (simp [List.lookup]; done)) | rfl))) | ((with_reducible apply w_isi (r := true)); (focus (first | exact .base (.int _) | exact .base .non | exact .base (.bl _) | exact .base (.str _) | exact .base (.lst (by ((repeat (first | with_reducible exact upd_same | (with_reducible refine hg_new (by assumption) ?_) | (with_reducible refine hg_ne (by first | assumption | exact Ne.symm (by assumption) | exact ne_of_none (by assumption) (by assumption) | exact Ne.symm (ne_of_none (by assumption) (by assumption))) ?_))); first | done | assumption | exact upd_same))) | exact .base (.tup (by ((repeat (first | with_reducible exact upd_same | (with_reducible refine hg_new (by assumption) ?_) | (with_reducible refine hg_ne (by first | assumption | exact Ne.symm (by assumption) | exact ne_of_none (by assumption) (by assumption) | exact Ne.symm (ne_of_none (by assumption) (by assumption))) ?_))); first | done | assumption | exact upd_same))) | exact .base (.dK (by ((repeat (first | with_reducible exact upd_same | (with_reducible refine hg_new (by assumption) ?_) | (with_reducible refine hg_ne (by first | assumption | exact Ne.symm (by assumption) | exact ne_of_none (by assumption) (by assumption) | exact Ne.symm (ne_of_none (by assumption) (by assumption))) ?_))); first | done | assumption | exact upd_same))))); (focus decide +kernel)) | ((with_reducible apply w_isi (r := false)); (focus (first | exact .base (.int _) | exact .base .non | exact .base (.bl _) | exact .base (.str _) | exact .base (.lst (by ((repeat (first | with_reducible exact upd_same | (with_reducible refine hg_new (by assumption) ?_) | (with_reducible refine hg_ne (by first | assumption | exact Ne.symm (by assumption) | exact ne_of_none (by assumption) (by assumption) | exact Ne.symm (ne_of_none (by assumption) (by assumption))) ?_))); first | done | assumption | exact upd_same))) | exact .base (.tup (by ((repeat (first | with_reducible exact upd_same | (with_reducible refine hg_new (by assumption) ?_) | (with_reducible refine hg_ne (by first | assumption | exact Ne.symm (by assumption) | exact ne_of_none (by assumption) (by assumption) | exact Ne.symm (ne_of_none (by assumption) (by assumption))) ?_))); first | done | assumption | exact upd_same))) | exact .base (.dK (by ((repeat (first | with_reducible exact upd_same | (with_reducible refine hg_new (by assumption) ?_) | (with_reducible refine hg_ne (by first | assumption | exact Ne.symm (by assumption) | exact ne_of_none (by assumption) (by assumption) | exact Ne.symm (ne_of_none (by assumption) (by assumption))) ?_))); first | done | assumption | exact upd_same))))); (focus decide +kernel)) | ((with_reducible apply w_slL); (focus ((repeat (first | with_reducible exact upd_same | (with_reducible refine hg_new (by assumption) ?_) | (with_reducible refine hg_ne (by first | assumption | exact Ne.symm (by assumption) | exact ne_of_none (by assumption) (by assumption) | exact Ne.symm (ne_of_none (by assumption) (by assumption))) ?_))); first | done | assumption | exact upd_same))) | ((with_reducible apply w_itemGo); (focus ((repeat (first | with_reducible exact upd_same | (with_reducible refine hg_new (by assumption) ?_) | (with_reducible refine hg_ne (by first | assumption | exact Ne.symm (by assumption) | exact ne_of_none (by assumption) (by assumption) | exact Ne.symm (ne_of_none (by assumption) (by assumption))) ?_))); first | done | assumption | exact upd_same))) | ((with_reducible apply w_lenO); (focus ((repeat (first | with_reducible exact upd_same | (with_reducible refine hg_new (by assumption) ?_) | (with_reducible refine hg_ne (by first | assumption | exact Ne.symm (by assumption) | exact ne_of_none (by assumption) (by assumption) | exact Ne.symm (ne_of_none (by assumption) (by assumption))) ?_))); first | done | assumption | exact upd_same))) | ((with_reducible apply w_gtup); (focus ((repeat (first | with_reducible exact upd_same | (with_reducible refine hg_new (by assumption) ?_) | (with_reducible refine hg_ne (by first | assumption | exact Ne.symm (by assumption) | exact ne_of_none (by assumption) (by assumption) | exact Ne.symm (ne_of_none (by assumption) (by assumption))) ?_))); first | done | assumption | exact upd_same)); (focus rfl)) | ((with_reducible apply w_tyL); (focus ((repeat (first | with_reducible exact upd_same | (with_reducible refine hg_new (by assumption) ?_) | (with_reducible refine hg_ne (by first | assumption | exact Ne.symm (by assumption) | exact ne_of_none (by assumption) (by assumption) | exact Ne.symm (ne_of_none (by assumption) (by assumption))) ?_))); first | done | assumption | exact upd_same))) | ((with_reducible apply w_pop0); (focus ((repeat (first | with_reducible exact upd_same | (with_reducible refine hg_new (by assumption) ?_) | (with_reducible refine hg_ne (by first | assumption | exact Ne.symm (by assumption) | exact ne_of_none (by assumption) (by assumption) | exact Ne.symm (ne_of_none (by assumption) (by assumption))) ?_))); first | done | assumption | exact upd_same))) | ((with_reducible apply w_I); (focus first | (show CMul _ _; first | exact .inl ⟨by omega, by omega⟩ | exact .inr ⟨by omega, by omega⟩) | (show CPow _ _; exact ⟨by omega, by omega, by omega⟩) | (show CDivN _ _; exact ⟨by omega, by omega⟩) | omega)) | ((with_reducible refine w_lstGo ?_ ?_); (focus (show _ ≤ sizeLine; decide)); (intro _ _)) | ((with_reducible refine w_tupGo' ?_ ?_); (focus (show _ ≤ sizeLine; decide)); (intro _ _)) | ((with_reducible apply w_isiT ["list", "tuple"] (r := true)); (focus ((repeat (first | with_reducible exact upd_same | (with_reducible refine hg_new (by assumption) ?_) | (with_reducible refine hg_ne (by first | assumption | exact Ne.symm (by assumption) | exact ne_of_none (by assumption) (by assumption) | exact Ne.symm (ne_of_none (by assumption) (by assumption))) ?_))); first | done | assumption | exact upd_same)); (focus rfl); (focus (first | exact .base (.int _) | exact .base .non | exact .base (.bl _) | exact .base (.str _) | exact .base (.lst (by ((repeat (first | with_reducible exact upd_same | (with_reducible refine hg_new (by assumption) ?_) | (with_reducible refine hg_ne (by first | assumption | exact Ne.symm (by assumption) | exact ne_of_none (by assumption) (by assumption) | exact Ne.symm (ne_of_none (by assumption) (by assumption))) ?_))); first | done | assumption | exact upd_same))) | exact .base (.tup (by ((repeat (first | with_reducible exact upd_same | (with_reducible refine hg_new (by assumption) ?_) | (with_reducible refine hg_ne (by first | assumption | exact Ne.symm (by assumption) | exact ne_of_none (by assumption) (by assumption) | exact Ne.symm (ne_of_none (by assumption) (by assumption))) ?_))); first | done | assumption | exact upd_same))) | exact .base (.dK (by ((repeat (first | with_reducible exact upd_same | (with_reducible refine hg_new (by assumption) ?_) | (with_reducible refine hg_ne (by first | assumption | exact Ne.symm (by assumption) | exact ne_of_none (by assumption) (by assumption) | exact Ne.symm (ne_of_none (by assumption) (by assumption))) ?_))); first | done | assumption | exact upd_same))))); (focus decide +kernel)) | ((with_reducible apply w_isiT ["list", "tuple"] (r := false)); (focus ((repeat (first | with_reducible exact upd_same | (with_reducible refine hg_new (by assumption) ?_) | (with_reducible refine hg_ne (by first | assumption | exact Ne.symm (by assumption) | exact ne_of_none (by assumption) (by assumption) | exact Ne.symm (ne_of_none (by assumption) (by assumption))) ?_))); first | done | assumption | exact upd_same)); (focus rfl); (focus (first | exact .base (.int _) | exact .base .non | exact .base (.bl _) | exact .base (.str _) | exact .base (.lst (by ((repeat (first | with_reducible exact upd_same | (with_reducible refine hg_new (by assumption) ?_) | (with_reducible refine hg_ne (by first | assumption | exact Ne.symm (by assumption) | exact ne_of_none (by assumption) (by assumption) | exact Ne.symm (ne_of_none (by assumption) (by assumption))) ?_))); first | done | assumption | exact upd_same))) | exact .base (.tup (by ((repeat (first | with_reducible exact upd_same | (with_reducible refine hg_new (by assumption) ?_) | (with_reducible refine hg_ne (by first | assumption | exact Ne.symm (by assumption) | exact ne_of_none (by assumption) (by assumption) | exact Ne.symm (ne_of_none (by assumption) (by assumption))) ?_))); first | done | assumption | exact upd_same))) | exact .base (.dK (by ((repeat (first | with_reducible exact upd_same | (with_reducible refine hg_new (by assumption) ?_) | (with_reducible refine hg_ne (by first | assumption | exact Ne.symm (by assumption) | exact ne_of_none (by assumption) (by assumption) | exact Ne.symm (ne_of_none (by assumption) (by assumption))) ?_))); first | done | assumption | exact upd_same))))); (focus decide +kernel)) | ((with_reducible apply w_isiT ["bool", "int", "list", "tuple", "dict"] (r := true)); (focus ((repeat (first | with_reducible exact upd_same | (with_reducible refine hg_new (by assumption) ?_) | (with_reducible refine hg_ne (by first | assumption | exact Ne.symm (by assumption) | exact ne_of_none (by assumption) (by assumption) | exact Ne.symm (ne_of_none (by assumption) (by assumption))) ?_))); first | done | assumption | exact upd_same)); (focus rfl); (focus (first | exact .base (.int _) | exact .base .non | exact .base (.bl _) | exact .base (.str _) | exact .base (.lst (by ((repeat (first | with_reducible exact upd_same | (with_reducible refine hg_new (by assumption) ?_) | (with_reducible refine hg_ne (by first | assumption | exact Ne.symm (by assumption) | exact ne_of_none (by assumption) (by assumption) | exact Ne.symm (ne_of_none (by assumption) (by assumption))) ?_))); first | done | assumption | exact upd_same))) | exact .base (.tup (by ((repeat (first | with_reducible exact upd_same | (with_reducible refine hg_new (by assumption) ?_) | (with_reducible refine hg_ne (by first | assumption | exact Ne.symm (by assumption) | exact ne_of_none (by assumption) (by assumption) | exact Ne.symm (ne_of_none (by assumption) (by assumption))) ?_))); first | done | assumption | exact upd_same))) | exact .base (.dK (by ((repeat (first | with_reducible exact upd_same | (with_reducible refine hg_new (by assumption) ?_) | (with_reducible refine hg_ne (by first | assumption | exact Ne.symm (by assumption) | exact ne_of_none (by assumption) (by assumption) | exact Ne.symm (ne_of_none (by assumption) (by assumption))) ?_))); first | done | assumption | exact upd_same))))); (focus decide +kernel)) | ((with_reducible apply w_isiT ["bool", "int", "list", "tuple", "dict"] (r := false)); (focus ((repeat (first | with_reducible exact upd_same | (with_reducible refine hg_new (by assumption) ?_) | (with_reducible refine hg_ne (by first | assumption | exact Ne.symm (by assumption) | exact ne_of_none (by assumption) (by assumption) | exact Ne.symm (ne_of_none (by assumption) (by assumption))) ?_))); first | done | assumption | exact upd_same)); (focus rfl); (focus (first | exact .base (.int _) | exact .base .non | exact .base (.bl _) | exact .base (.str _) | exact .base (.lst (by ((repeat (first | with_reducible exact upd_same | (with_reducible refine hg_new (by assumption) ?_) | (with_reducible refine hg_ne (by first | assumption | exact Ne.symm (by assumption) | exact ne_of_none (by assumption) (by assumption) | exact Ne.symm (ne_of_none (by assumption) (by assumption))) ?_))); first | done | assumption | exact upd_same))) | exact .base (.tup (by ((repeat (first | with_reducible exact upd_same | (with_reducible refine hg_new (by assumption) ?_) | (with_reducible refine hg_ne (by first | assumption | exact Ne.symm (by assumption) | exact ne_of_none (by assumption) (by assumption) | exact Ne.symm (ne_of_none (by assumption) (by assumption))) ?_))); first | done | assumption | exact upd_same))) | exact .base (.dK (by ((repeat (first | with_reducible exact upd_same | (with_reducible refine hg_new (by assumption) ?_) | (with_reducible refine hg_ne (by first | assumption | exact Ne.symm (by assumption) | exact ne_of_none (by assumption) (by assumption) | exact Ne.symm (ne_of_none (by assumption) (by assumption))) ?_))); first | done | assumption | exact upd_same))))); (focus decide +kernel)))))
local macro_rules | `(tactic| and_intros) => `(tactic| ((repeat (first | with_reducible exact upd_same | (with_reducible refine hg_new (by assumption) ?_) | (with_reducible refine hg_ne (by first | assumption | exact Ne.symm (by assumption) | exact ne_of_none (by assumption) (by assumption) | exact Ne.symm (ne_of_none (by assumption) (by assumption))) ?_))); first | done | assumption | exact upd_same))
local macro_rules | `(tactic| ac_rfl) => `(tactic| (repeat (first | with_reducible exact Same.refl _ | (with_reducible refine Same.trans ?_ (Same.new (by assumption))))))

section
variable {P : Program} {w : World} {K : PySem.W.Frag} {mg : Str → Option Value} {base : Heap}
theorem ok_law {f C CA CB gT ct0 Pt : Addr} {oc kV doc pm ct ocT kVT docT pmT cdT ctT : Value} {od an odT anT : Option Addr} {osl oslT : Array (Option Value)}
    (lk : K.lookup f = some ⟨oc, od, .func (PySem.W.fnOf "law" "law" (defArgs s_law) (defBody s_law) (defScope s_law) .none kV doc pm an (.ref ct0) ct), osl⟩) (hcd : PySem.W.codeIn K (.ref ct0) "law" = true)
    (T : Txt K mg) (c_Memory : Cls K C) (mT : mg "_law_told" = some (.ref gT)) (kT : PySem.W.keepIn K (.ref gT) = true) (lT : K.lookup gT = some ⟨ocT, odT, .func (PySem.W.fnOf "_law_told" "_law_told" (defArgs s__law_told) (defBody s__law_told) (defScope s__law_told) .none kVT docT pmT anT cdT ctT), oslT⟩) (cT : PySem.W.codeIn K cdT "_law_told" = true) (bT : Binds K (PySem.W.fnOf "_law_told" "_law_told" (defArgs s__law_told) (defBody s__law_told) (defScope s__law_told) .none kVT docT pmT anT cdT ctT) ["_law_ask"] [])
    (TB : LamX.TabB base mg ct0 Pt) (tA : PySem.W.exmOne K (.ref CA) (.ref CA) = some true) (tB : PySem.W.exmOne K (.ref CB) (.ref CB) = some true) (tBA : PySem.W.exmOne K (.ref CB) (.ref CA) = some false) (E_BadAddress : ErrOk P w K mg base "BadAddress" CA "octet") (E_BadOctet : ErrOk P w K mg base "BadOctet" CB "value")
    (D__law_draw : CallOk P w K mg base "_law_draw" 1 spDraw) (D__law_pick : CallOk P w K mg base "_law_pick" 3 spPick) (D__law_some_octets : CallOk P w K mg base "_law_some_octets" 5 spOcts) (D__law_is_place : CallOk P w K mg base "_law_is_place" 1 spAddr)
    (D__law_is_very : CallOk P w K mg base "_law_is_very" 10 (spVery C)) (D__law_same : CallOk P w K mg base "_law_same" 3 (spSame 3)) (D_Memory : MakeOk P w K mg base "Memory" C 7 (spMem C CB)) (D_Memory_octets : MethOk P w K mg base C "octets" 1 (spOctsM C)) (D_get : SpecOk P w K mg base C "__getitem__" 5 (spGet C CA)) (D__law_set : CallOk P w K mg base "_law_set" 9 (spSetI C CA CB)) :
    FnOk P w K mg base CX0 14 f (PySem.W.fnOf "law" "law" (defArgs s_law) (defBody s_law) (defScope s_law) .none kV doc pm an (.ref ct0) ct) P_law (spLaw K Pt) := by
  refine fun_okc lk hcd sc_law (fun vs H Q E h => ?_) (fun A outer s H vs Q E hr h => ?_)
  · obtain ⟨_, _, rfl, _⟩ := h
    rfl
  · obtain ⟨a, ns, rfl, hS, hlen, hPt, k⟩ := h
    refine ⟨_, pss_gs fun g => have hr := roomGs (g := g) hr; (pss_cons (ps_set (i := 1) sc_law.nd rfl (Or.inl rfl) (pe_lst (pa_cons (pe_callTy (list_k (K := K) rfl) (by rfl) T.z_list (by decide +kernel) (pa_cons (pv 0) pa_nil)) (pa_cons pe_int (pa_cons pe_int (pa_cons pe_int pa_nil))))))
      (pss_cons (ps_for PassesOwn.never rfl (pi_range1 (by rfl) T.z_range (pa_cons pe_int pa_nil)) (pg_name (i := 2) sc_law.nd rfl (Or.inl rfl)) (pss_cons (ps_set (i := 3) sc_law.nd rfl (Or.inl rfl) (pe_callD D__law_some_octets (hr.mono (by decide)) (by rfl) (pa_cons (pv 1) (pa_cons (pe_callD D__law_draw (hr.mono (by decide)) (by rfl) (pa_cons (pv 1) (pa_cons pe_int pa_nil))) pa_nil))))
      (pss_cons (ps_asg (pe_tup (pa_cons (pe_makeD D_Memory (hr.mono (by decide)) (by rfl) (pa_cons (pv 3) pa_nil)) (pa_cons (pe_callB (len_k (K := K) rfl) (by rfl) T.z_len PySem.boot_len (pa_cons (pv 3) pa_nil)) pa_nil))) (gtup_k (K := K) (n := 2) rfl rfl (pgs_cons (pg_name (i := 10) sc_law.nd rfl (Or.inr rfl)) (pgs_cons (pg_name (i := 4) sc_law.nd rfl (Or.inl rfl)) pgs_nil))))
      (pss_cons (ps_set (i := 5) sc_law.nd rfl (Or.inl rfl) (pe_lst (pa_cons (pe_un un_neg pe_int) (pa_cons (pe_un un_neg pe_int) (pa_cons (pv 4) (pa_cons (pe_op op_add (pv 4) pe_int) (pa_cons (pe_op op_mul pe_int (pe_op op_pow pe_int pe_int)) (pa_cons (pe_op op_mul (pe_un un_neg pe_int) (pe_op op_pow pe_int pe_int)) (pa_cons pe_bl (pa_cons pe_bl (pa_cons pe_non (pa_cons pe_str (pa_cons pe_str (pa_cons (pe_lst (pa_cons pe_int pa_nil)) (pa_cons (pe_tup (pa_cons pe_int pa_nil)) (pa_cons pe_dnewK pa_nil))))))))))))))))
      (pss_cons (ps_set (i := 6) sc_law.nd rfl (Or.inl rfl) (pe_lst (pa_cons pe_int (pa_cons (pe_un un_neg pe_int) (pa_cons (pe_op op_mul pe_int (pe_op op_pow pe_int pe_int)) (pa_cons pe_bl (pa_cons pe_non (pa_cons pe_str (pa_cons (pe_lst (pa_cons pe_int pa_nil)) (pa_cons (pe_tup pa_nil) pa_nil))))))))))
      (pss_one (ps_for PassesOwn.never rfl (pi_range1 (by rfl) T.z_range (pa_cons pe_int pa_nil)) (pg_name (i := 7) sc_law.nd rfl (Or.inl rfl)) (pss_cons (ps_up (ps_set (i := 11) sc_law.nd rfl (Or.inr rfl) (pe_ifExp (pt_cmpR op_eq (pe_callD D__law_draw (hr.mono (by decide)) (by rfl) (pa_cons (pv 1) (pa_cons pe_int pa_nil))) pe_int (nomark _)) (pe_callD D__law_pick (hr.mono (by decide)) (by rfl) (pa_cons (pv 1) (pa_cons (pv 5) pa_nil))) (pe_callD D__law_draw (hr.mono (by decide)) (by rfl) (pa_cons (pv 1) (pa_cons (pe_op op_add (pv 4) pe_int) pa_nil))))))
      (pss_cons (ps_up (ps_set (i := 12) sc_law.nd rfl (Or.inr rfl) (pe_ifExp (pt_cmpR op_eq (pe_callD D__law_draw (hr.mono (by decide)) (by rfl) (pa_cons (pv 1) (pa_cons pe_int pa_nil))) pe_int (nomark _)) (pe_callD D__law_pick (hr.mono (by decide)) (by rfl) (pa_cons (pv 1) (pa_cons (pv 6) pa_nil))) (pe_callD D__law_draw (hr.mono (by decide)) (by rfl) (pa_cons (pv 1) (pa_cons pe_int pa_nil))))))
      (pss_cons (ps_set (i := 8) sc_law.nd rfl (Or.inl rfl) (pe_callD D__law_is_place (hr.mono (by decide)) (by rfl) (pa_cons (pv 11) (pa_cons (pv 4) pa_nil))))
      (pss_cons (ps_up (ps_if (pt_cmpR op_eq (pe_callD D__law_draw (hr.mono (by decide)) (by rfl) (pa_cons (pv 1) (pa_cons pe_int pa_nil))) pe_int (nomark _)) (pss_cons (ps_set (i := 9) sc_law.nd rfl (Or.inl rfl) (pe_ifExp (pt_val (pv 8)) (pe_tup (pa_cons pe_str (pa_cons (pe_ix (ixL_k (K := K) rfl) (pv 3) (pv 11) (fun _ _ => rfl)) pa_nil))) (pe_tup (pa_cons pe_str (pa_cons (pe_callB (call_reprG (g := g) rfl hr.units) (by rfl) T.z_repr (by decide +kernel) (pa_cons (pv 11) pa_nil)) pa_nil)))))
      (pss_one (ps_if (pt_not (pt_val (pe_callD D__law_same (hr.mono (by decide)) (by rfl) (pa_cons (LamX.pe_lamcall (T := lamT Pt) (TT := TTold CA CB g) (k := 9) (by rfl) mT kT lT cT bT sc__law_told rfl (.inl rfl) (told_gives rfl (hr.mono (by decide)) T E_BadAddress E_BadOctet tA tB tBA) TB rfl (List.mem_singleton.mpr rfl) (fun p hp _ => by rw [List.mem_singleton.mp hp]; rfl) (hr.mono (by decide)) (show LamX.LamS (defScope s_law) _ from LamX.lamS_by (by decide +kernel)) rfl (fun _ _ _ _ _ => rfl) (fun A outer s H E f c' hr2 => pe_itemG (C := C) (k := 5) (sp := spGet C CA) (E := fun _ => E) (fun σ => passAt (takes_of rfl rfl rfl rfl) σ) D_get (hr2.mono (by decide)) (pv 10) (pv 11))) (pa_cons (pv 9) pa_nil))))) (pss_one (ps_ret pe_bl)) pss_nil))) (pss_cons (ps_set (i := 9) sc_law.nd rfl (Or.inl rfl) (pe_ifExp (pt_val (pe_callD D__law_is_place (hr.mono (by decide)) (by rfl) (pa_cons (pv 12) (pa_cons pe_int pa_nil)))) (pe_tup (pa_cons pe_str (pa_cons pe_non pa_nil))) (pe_tup (pa_cons pe_str (pa_cons (pe_callB (call_reprG (g := g) rfl hr.units) (by rfl) T.z_repr (by decide +kernel) (pa_cons (pv 12) pa_nil)) pa_nil)))))
      (pss_cons (ps_set (i := 9) sc_law.nd rfl (Or.inl rfl) (pe_ifExp (pt_val (pv 8)) (pv 9) (pe_tup (pa_cons pe_str (pa_cons (pe_callB (call_reprG (g := g) rfl hr.units) (by rfl) T.z_repr (by decide +kernel) (pa_cons (pv 11) pa_nil)) pa_nil)))))
      (pss_cons (ps_if (pt_not (pt_val (pe_callD D__law_same (hr.mono (by decide)) (by rfl) (pa_cons (LamX.pe_lamcall (T := lamT Pt) (TT := TTold CA CB g) (k := 9) (by rfl) mT kT lT cT bT sc__law_told rfl (.inl rfl) (told_gives rfl (hr.mono (by decide)) T E_BadAddress E_BadOctet tA tB tBA) TB rfl (List.mem_singleton.mpr rfl) (fun p hp _ => by rw [List.mem_singleton.mp hp]; rfl) (hr.mono (by decide)) (show LamX.LamS (defScope s_law) _ from LamX.lamS_by (by decide +kernel)) rfl (fun _ _ _ _ _ => rfl) (fun A outer s H E f c' hr2 => pe_callW (takes_of rfl rfl rfl rfl) D__law_set (hr2.mono (by decide)) (by rfl) (pa_cons (pv 10) (pa_cons (pv 11) (pa_cons (pv 12) pa_nil))))) (pa_cons (pv 9) pa_nil))))) (pss_one (ps_ret pe_bl)) pss_nil)
      (pss_one (ps_if (pt_cmpR op_eq (pe_ix (ixT_k (K := K) rfl) (pv 9) pe_int (fun _ _ => rfl)) pe_str (nomark _)) (pss_one (ps_asg (pv 12) (pg_sub (pv 3) (pv 11) set_list))) pss_nil)))))))
      (pss_one (ps_if (pt_not (pt_val (pe_callD D__law_same (hr.mono (by decide)) (by rfl) (pa_cons (pe_meth0D (pv 10) c_Memory D_Memory_octets (hr.mono (by decide))) (pa_cons (pv 3) pa_nil))))) (pss_one (ps_ret pe_bl)) pss_nil)))))))))))))
      (pss_one (ps_ret (pe_and (pe_callD D__law_is_very (hr.mono (by decide)) (by rfl) (pa_cons (pe_makeD D_Memory (hr.mono (by decide)) (by rfl) (pa_cons pe_int pa_nil)) (pa_cons (pe_lst (pa_cons pe_int pa_nil)) (pa_cons pe_str pa_nil)))) (pe_one (pe_callD D__law_is_very (hr.mono (by decide)) (by rfl) (pa_cons (pe_makeD D_Memory (hr.mono (by decide)) (by rfl) (pa_cons pe_int pa_nil)) (pa_cons (pe_lst (pa_cons pe_int pa_nil)) (pa_cons pe_str pa_nil)))))))))), ?_⟩
    intro gg
    left
    refine ⟨a, _, rfl, .inl hS, fun ls hls => ?_⟩
    left
    refine ⟨by show 4 ≤ sizeLine; decide, fun st hst => ?_⟩
    left
    have hne : st ≠ ls := (ne_of_none upd_same hst).symm
    have hS0 : StrAt (upd (upd H ls (.lst (ns.map V.int))) st (.lst [.ref ls, .int 0, .int 0, .int 0])) st ls 0 := ⟨hne, ns, 0, 0, 0, upd_same, hg_ne hne.symm upd_same, by omega, by omega, by omega, by omega, by omega⟩
    have hT0 : LamX.Tabs (lamT Pt) (upd (upd H ls (.lst (ns.map V.int))) st (.lst [.ref ls, .int 0, .int 0, .int 0])) := fun q hq => by
      rw [List.mem_singleton.mp hq]
      exact LamX.TabS.nil (hg_new hst (hg_new hls hPt))
    generalize upd (upd H ls (.lst (ns.map V.int))) st (.lst [.ref ls, .int 0, .int 0, .int 0]) = H0 at hS0 hT0
    refine w_rngGo (m := 4) (by omega) (w_forR (fun i σ H1 => StrAt H1 st ls (200 * i) ∧ LamX.Tabs (lamT Pt) H1 ∧ ∃ u2 u3 u4 u5 u6 u7 u8 u9 u10 u11 u12, σ = [some (.ref a), some (.ref st), u2, u3, u4, u5, u6, u7, u8, u9, u10, u11, u12]) ⟨hS0, hT0, none, none, none, none, none, none, none, none, none, none, none, rfl⟩ ?_ ?_)
    · clear hS0 hT0 hst hls hS hPt H0
      rintro i σ H0 hi ⟨hs0, ht0, u2, u3, u4, u5, u6, u7, u8, u9, u10, u11, u12, rfl⟩
      left
      refine ⟨st, ls, _, _, rfl, hs0, by omega, by omega, by omega, fun v H1 v0 v1 hs1 fr1 => ?_⟩
      have ht1 := Tabs.fr ht0 hs0 fr1
      obtain ⟨m, rfl⟩ := Int.eq_ofNat_of_zero_le v0
      clear hs0 ht0 fr1
      left
      refine ⟨st, ls, _, m, rfl, hs1, by omega, by omega, fun r xs H2 hx hxl hs2 fr2 hr1 hr2 => ?_⟩
      have ht2 := Tabs.fr ht1 hs1 fr2
      have r1 := hs1.nest hr1
      clear ht1 fr2 hs1 hr1
      left
      refine mk_list (.inl hr2) hx fun p l H3 hM sm hp hl => ?_
      have hs3 := hs2.fr sm
      have ht3 := ht2.ext sm
      have hr3 := sm _ _ hr2
      have l1 := hs2.nest hl
      have rl : r ≠ l := ne_of_none hr2 hl
      obtain ⟨hpl, dx, hp3, hl3⟩ := hM
      clear hs2 ht2 hr2 sm hp hl
      left
      rw [List.length_map, hxl]
      refine ⟨by show 2 ≤ sizeLine; decide, fun tq htq => ?_⟩
      left
      refine ⟨by show 1 ≤ sizeLine; decide, fun a1 h1 => ?_⟩
      left
      refine ⟨by show 1 ≤ sizeLine; decide, fun a2 h2 => ?_⟩
      left
      intro a3 h3
      left
      refine ⟨by show 14 ≤ sizeLine; decide, fun od ho => ?_⟩
      left
      refine ⟨by show 1 ≤ sizeLine; decide, fun b1 g1 => ?_⟩
      left
      refine ⟨by show 0 ≤ sizeLine; decide, fun b2 g2 => ?_⟩
      left
      refine ⟨by show 8 ≤ sizeLine; decide, fun vl hv => ?_⟩
      have n1 := (hs3.new (o := .tup [.ref p, .int m]) htq).nest h1
      have n2 := ((((hs3.new htq).new h1).new h2).new h3).nest ho
      have n3 := (((((hs3.new htq).new h1).new h2).new h3).new ho).nest g1
      have n4 := (((((((hs3.new htq).new h1).new h2).new h3).new ho).new g1).new g2).nest hv
      have ap : Apart st ls r l od a1 vl b1 := ⟨r1, l1, ⟨n2, (ne_of_none (hg_new h3 (hg_new h2 (hg_new h1 (hg_new htq hr3)))) ho).symm, (ne_of_none (hg_new h3 (hg_new h2 (hg_new h1 (hg_new htq hl3)))) ho).symm⟩, ⟨n1, (ne_of_none (hg_new htq hr3) h1).symm, (ne_of_none (hg_new htq hl3) h1).symm⟩,
        ⟨n4, (ne_of_none (hg_new g2 (hg_new g1 (hg_new ho (hg_new h3 (hg_new h2 (hg_new h1 (hg_new htq hr3))))))) hv).symm, (ne_of_none (hg_new g2 (hg_new g1 (hg_new ho (hg_new h3 (hg_new h2 (hg_new h1 (hg_new htq hl3))))))) hv).symm⟩, ⟨n3, (ne_of_none (hg_new ho (hg_new h3 (hg_new h2 (hg_new h1 (hg_new htq hr3))))) g1).symm, (ne_of_none (hg_new ho (hg_new h3 (hg_new h2 (hg_new h1 (hg_new htq hl3))))) g1).symm⟩, rl⟩
      rw [show [V.int (-1), V.int (-2), V.int m, V.int (m + 1), V.int (64 * 2 ^ Int.toNat 64), V.int (-64 * 2 ^ Int.toNat 64), V.bl true, V.bl false, V.non, V.str "0", V.str "", V.ref a1, V.ref a2, V.ref a3] = oddK m a1 a2 a3 from rfl]
      rw [show [V.int 256, V.int (-1), V.int (64 * 2 ^ Int.toNat 64), V.bl true, V.non, V.str "7", V.ref b1, V.ref b2] = valK b1 b2 from rfl]
      have D0 : Deed C Pt st ls r p l od a1 a2 a3 vl b1 b2 m (upd (upd (upd (upd (upd (upd (upd (upd H3 tq (.tup [.ref p, .int m])) a1 (.lst [.int 0])) a2 (.tup [.int 0])) a3 (.dK [])) od (.lst (oddK m a1 a2 a3))) b1 (.lst [.int 7])) b2 (.tup [])) vl (.lst (valK b1 b2))) (200 * i + 1 + 2 * m) xs xs :=
        ⟨(((((((hs3.new htq).new h1).new h2).new h3).new ho).new g1).new g2).new hv, ht3.ext ((((((((Same.new htq).trans (Same.new h1)).trans (Same.new h2)).trans (Same.new h3)).trans (Same.new ho)).trans (Same.new g1)).trans (Same.new g2)).trans (Same.new hv)),
          hg_new hv (hg_new g2 (hg_new g1 (hg_new ho (hg_new h3 (hg_new h2 (hg_new h1 (hg_new htq hr3))))))), ⟨dx, hg_new hv (hg_new g2 (hg_new g1 (hg_new ho (hg_new h3 (hg_new h2 (hg_new h1 (hg_new htq hp3)))))))⟩, hg_new hv (hg_new g2 (hg_new g1 (hg_new ho (hg_new h3 (hg_new h2 (hg_new h1 (hg_new htq hl3))))))),
          hg_new hv (hg_new g2 (hg_new g1 upd_same)), hg_new hv (hg_new g2 (hg_new g1 (hg_new ho (hg_new h3 (hg_new h2 upd_same))))), hg_new hv (hg_new g2 (hg_new g1 (hg_new ho (hg_new h3 upd_same)))), hg_new hv (hg_new g2 (hg_new g1 (hg_new ho upd_same))),
          upd_same, hg_new hv (hg_new g2 upd_same), hg_new hv upd_same⟩
      generalize upd (upd (upd (upd (upd (upd (upd (upd H3 tq (.tup [.ref p, .int m])) a1 (.lst [.int 0])) a2 (.tup [.int 0])) a3 (.dK [])) od (.lst (oddK m a1 a2 a3))) b1 (.lst [.int 7])) b2 (.tup [])) vl (.lst (valK b1 b2)) = H4 at D0
      clear n1 n2 n3 n4 hs3 ht3 hr3 hl3 hp3 htq h1 h2 h3 ho g1 g2 hv
      left
      refine w_rngGo (m := 24) (by omega) (w_forR (fun j σ H5 => (∃ xs : List Int, xs.length = m ∧ (∀ x ∈ xs, isOct x) ∧ Deed C Pt st ls r p l od a1 a2 a3 vl b1 b2 m H5 (200 * i + 1 + 2 * m + 5 * j) xs xs) ∧ ∃ u7 u8 u9 u11 u12, σ = [some (.ref a), some (.ref st), some (.int i), some (.ref r), some (.int m), some (.ref od), some (.ref vl), u7, u8, u9, some (.ref p), u11, u12]) ⟨⟨xs, hxl, hx, D0⟩, u7, u8, u9, u11, u12, rfl⟩ ?_ ?_)
      · clear D0 H4 hx hxl xs H3 H2 H1 H0
        rintro j σ H5 hj ⟨⟨xs, hxl, hx, d5⟩, u7, u8, u9, u11, u12, rfl⟩
        left
        refine w_seq (w_up (fun σ H6 => ∃ x, Drawn (oddK m a1 a2 a3) x ∧ Deed C Pt st ls r p l od a1 a2 a3 vl b1 b2 m H6 (200 * i + 1 + 2 * m + 5 * j + 2) xs xs ∧ σ = [some (.ref a), some (.ref st), some (.int i), some (.ref r), some (.int m), some (.ref od), some (.ref vl), some (.int j), u8, u9, some (.ref p), some x, u12]) ?_ ?_)
        · rintro σ H6 ⟨x, ox, d6x, rfl⟩
          clear d5
          refine w_seq (w_up (fun σ H7 => ∃ y, Drawn (valK b1 b2) y ∧ Deed C Pt st ls r p l od a1 a2 a3 vl b1 b2 m H7 (200 * i + 1 + 2 * m + 5 * j + 4) xs xs ∧ σ = [some (.ref a), some (.ref st), some (.int i), some (.ref r), some (.int m), some (.ref od), some (.ref vl), some (.int j), u8, u9, some (.ref p), some x, some y]) ?_ ?_)
          · rintro σ H7 ⟨y, oy, d7, rfl⟩
            clear d6x
            obtain ⟨tx, px⟩ := (d7.oddX (by omega) ox).pl
            left
            refine ⟨x, tx, m, rfl, px, ?_⟩
            left
            refine w_seq (w_up (fun σ H8 => (∃ xs : List Int, xs.length = m ∧ (∀ x ∈ xs, isOct x) ∧ Deed C Pt st ls r p l od a1 a2 a3 vl b1 b2 m H8 (200 * i + 1 + 2 * m + 5 * j + 5) xs xs) ∧ ∃ u9, σ = [some (.ref a), some (.ref st), some (.int i), some (.ref r), some (.int m), some (.ref od), some (.ref vl), some (.int j), some (.bl (adrV m x)), u9, some (.ref p), some x, some y]) ?_ ?_)
            · clear d7 hx hxl xs
              rintro σ H8 ⟨⟨xs, hxl, hx, d8⟩, u9, rfl⟩
              obtain ⟨dx, hp8⟩ := d8.hp
              have hr8 := d8.hr
              left
              refine ⟨p, l, xs, rfl, d8.mem, fun q hq => ?_⟩
              left
              refine ⟨_, _, rfl, rep_ints upd_same (hg_new hq hr8) (by omega), fun H9 sm9 => ?_⟩
              left
              exact ⟨⟨xs, hxl, hx, (d8.same ap ((Same.new hq).trans sm9)).up (by omega)⟩, _, _, _, _, _, rfl⟩
            · left
              refine ⟨st, ls, _, _, rfl, d7.hs, by omega, by omega, by omega, fun v H8 v0 w1 hs8 fr8 => ?_⟩
              have d8 := d7.fr ap hs8 fr8
              have ox8 := d8.oddX (by omega) ox
              have oy8 := d8.oddY oy
              obtain ⟨ty, py⟩ := oy8.pl
              clear d7 px tx ox oy
              left
              refine w_iteI (fun ex => ?_) (fun ex => ?_)
              · cases ea : adrV (m : Int) x with
                | true =>
                  obtain ⟨t, rfl, ht⟩ := adr_true ea
                  have hy : xs[t]? = some (xs[t]'(by omega)) := List.getElem?_eq_getElem (by omega)
                  have hr8 := d8.hr
                  left
                  refine ⟨r, _, t, _, rfl, rfl, SqL.of hr8, atI_nat (by rw [List.getElem?_map, hy]; rfl), ?_⟩
                  left
                  refine ⟨by show 2 ≤ sizeLine; decide, fun q1 hq1 => ?_⟩
                  left
                  refine ⟨(d8.same ap (Same.new hq1)).ht, fun H9 ex9 tb9 => ?_⟩
                  have d9 := (d8.same ap (Same.new hq1)).ext ap ex9 tb9
                  have k9 : KeepN H8 H9 := fun b o h n => ex9 b o ((Same.new hq1) b o h) n
                  have hq9 := ex9 _ _ upd_same (fun _ z => by cases z)
                  obtain ⟨dx, hp9⟩ := d9.hp

                  refine w_TTold ?_
                  show tItem _ _ _ _ _ _ _ _
                  left
                  refine ⟨p, l, xs, .int t, _, rfl, d9.mem, .int _, fun e => (by rw [hxl, ea] at e; cases e), fun t' y' et hy' => ?_⟩
                  obtain rfl : t = t' := by have := V.int.inj et; omega
                  rw [hy] at hy'
                  cases hy'
                  intro q2 hq2
                  left
                  refine ⟨_, _, rfl, rep_pair upd_same (hg_new hq2 hq9) (.int _), fun H10 sm10 => ?_⟩
                  left
                  exact ⟨⟨xs, hxl, hx, (d9.same ap ((Same.new hq2).trans sm10)).up (by omega)⟩, _, rfl⟩
                | false =>
                  left
                  refine ⟨x, rfl, ox8, ?_⟩
                  left
                  refine ⟨by show 2 ≤ sizeLine; decide, fun q1 hq1 => ?_⟩
                  left
                  refine ⟨(d8.same ap (Same.new hq1)).ht, fun H9 ex9 tb9 => ?_⟩
                  have d9 := (d8.same ap (Same.new hq1)).ext ap ex9 tb9
                  have k9 : KeepN H8 H9 := fun b o h n => ex9 b o ((Same.new hq1) b o h) n
                  have hq9 := ex9 _ _ upd_same (fun _ z => by cases z)
                  obtain ⟨dx, hp9⟩ := d9.hp

                  have ox9 := ox8.keep k9
                  obtain ⟨tx9, px9⟩ := ox9.pl
                  refine w_TTold ?_
                  show tItem _ _ _ _ _ _ _ _
                  left
                  refine ⟨p, l, xs, x, _, rfl, d9.mem, px9, fun _ dd H' hd sm hxd => ⟨dd, x, rfl, ox9.same sm, .inl ⟨rfl, hxd, fun q2 hq2 => ?_⟩⟩, fun t' y' et hy' => ?_⟩
                  · rw [(txR_same sm ox9).trans (txR_keep k9 ox8)]
                    left
                    refine ⟨_, _, rfl, rep_pair upd_same (hg_new hq2 (sm _ _ hq9)) (.str _), fun H10 sm10 => ?_⟩
                    left
                    exact ⟨⟨xs, hxl, hx, (d9.same ap ((sm.trans (Same.new hq2)).trans sm10)).up (by omega)⟩, _, rfl⟩
                  · exfalso
                    have := (List.getElem?_eq_some_iff.mp hy').1
                    subst et
                    rw [show adrV (m : Int) (.int t') = true from decide_eq_true (by omega)] at ea
                    cases ea
              · left
                refine ⟨y, ty, 256, rfl, py, ?_⟩
                cases eo : adrV (256 : Int) y with
                | true =>
                  left
                  refine ⟨by show 2 ≤ sizeLine; decide, fun q0 hq0 => ?_⟩
                  cases ea : adrV (m : Int) x with
                  | false =>
                    left
                    refine ⟨x, rfl, ox8.same (Same.new hq0), ?_⟩
                    left
                    refine ⟨by show 2 ≤ sizeLine; decide, fun q1 hq1 => ?_⟩
                    left
                    refine ⟨(d8.same ap ((Same.new hq0).trans (Same.new hq1))).ht, fun H9 ex9 tb9 => ?_⟩
                    have d9 := (d8.same ap ((Same.new hq0).trans (Same.new hq1))).ext ap ex9 tb9
                    have k9 : KeepN H8 H9 := fun b o h n => ex9 b o (((Same.new hq0).trans (Same.new hq1)) b o h) n
                    have hq9 := ex9 _ _ upd_same (fun _ z => by cases z)
                    obtain ⟨dx, hp9⟩ := d9.hp
                    have ox9 := ox8.keep k9
                    have oy9 := oy8.keep k9
                    obtain ⟨tx9, px9⟩ := ox9.pl
                    obtain ⟨ty9, py9⟩ := oy9.pl
                    refine w_TTold ?_
                    show tCallS _ _ _ _ _ _
                    left
                    refine ⟨p, l, xs, x, y, _, _, rfl, d9.mem, px9, py9, fun _ dd H' hd sm hxd => (show ToldE CA CB gg _ (.ref CA) (some dd) H' from ⟨dd, x, rfl, ox9.same sm, .inl ⟨rfl, hxd, fun q2 hq2 => ?_⟩⟩), fun e => (by rw [hxl, ea] at e; cases e), fun t' j' et _ ht' _ => ?_⟩
                    · have et0 := txR_same (g := gg) (Same.new (o := .tup [.str "told", .non]) hq0) ox8
                      rw [(txR_same sm ox9).trans ((txR_keep k9 ox8).trans et0.symm)]
                      left
                      refine ⟨_, _, rfl, rep_pair upd_same (hg_new hq2 (sm _ _ hq9)) (.str _), fun H10 sm10 => ?_⟩
                      have hq10 := sm10 _ _ (hg_new hq2 (sm _ _ hq9))
                      left
                      exact ⟨⟨xs, hxl, hx, (d9.same ap ((sm.trans (Same.new hq2)).trans sm10)).up (by omega)⟩, _, rfl⟩
                    · exfalso
                      subst et
                      rw [show adrV (m : Int) (.int t') = true from decide_eq_true (by omega)] at ea
                      cases ea
                  | true =>
                    obtain ⟨t, rfl, ht⟩ := adr_true ea
                    obtain ⟨v2, rfl, hv2⟩ := adr_true eo
                    left
                    refine ⟨(d8.same ap (Same.new hq0)).ht, fun H9 ex9 tb9 => ?_⟩
                    have d9 := (d8.same ap (Same.new hq0)).ext ap ex9 tb9
                    have k9 : KeepN H8 H9 := fun b o h n => ex9 b o ((Same.new hq0) b o h) n
                    have hq9 := ex9 _ _ upd_same (fun _ z => by cases z)
                    obtain ⟨dx, hp9⟩ := d9.hp

                    refine w_TTold ?_
                    show tCallS _ _ _ _ _ _
                    left
                    refine ⟨p, l, xs, .int t, .int v2, _, _, rfl, d9.mem, .int _, .int _, fun e => (by rw [hxl, ea] at e; cases e), fun _ e => (by rw [← adr_oct, eo] at e; cases e), fun t' j' et ej ht' hj' H' hM fr => ?_⟩
                    obtain rfl : t = t' := by have := V.int.inj et; omega
                    obtain rfl := V.int.inj ej
                    have d10 := d9.wl ap fr hM.2.choose_spec.2
                    have hq10 := fr _ _ (ne_of_some hq9 d9.hl (fun z => by cases z)) hq9
                    intro q2 hq2
                    left
                    refine ⟨_, _, rfl, rep_pair upd_same (hg_new hq2 hq10) .non, fun H11 sm11 => ?_⟩
                    have hq11 := sm11 _ _ (hg_new hq2 hq10)
                    have d11 := d10.same ap ((Same.new hq2).trans sm11)
                    left
                    refine w_setL d11.hr (j := t) (ixN_of (by rw [List.length_map]; omega)) ?_
                    left
                    rw [set_int]
                    exact ⟨⟨xs.set t v2, by rw [List.length_set]; exact hxl, fun z hz => (List.mem_or_eq_of_mem_set hz).elim (hx z) (fun e => e ▸ hj'), (d11.wr ap).up (by omega)⟩, _, rfl⟩
                | false =>
                  left
                  refine ⟨y, rfl, oy8, ?_⟩
                  left
                  refine ⟨by show 2 ≤ sizeLine; decide, fun q0 hq0 => ?_⟩
                  cases ea : adrV (m : Int) x with
                  | false =>
                    left
                    refine ⟨x, rfl, ox8.same (Same.new hq0), ?_⟩
                    left
                    refine ⟨by show 2 ≤ sizeLine; decide, fun q1 hq1 => ?_⟩
                    left
                    refine ⟨(d8.same ap ((Same.new hq0).trans (Same.new hq1))).ht, fun H9 ex9 tb9 => ?_⟩
                    have d9 := (d8.same ap ((Same.new hq0).trans (Same.new hq1))).ext ap ex9 tb9
                    have k9 : KeepN H8 H9 := fun b o h n => ex9 b o (((Same.new hq0).trans (Same.new hq1)) b o h) n
                    have hq9 := ex9 _ _ upd_same (fun _ z => by cases z)
                    obtain ⟨dx, hp9⟩ := d9.hp
                    have ox9 := ox8.keep k9
                    have oy9 := oy8.keep k9
                    obtain ⟨tx9, px9⟩ := ox9.pl
                    obtain ⟨ty9, py9⟩ := oy9.pl
                    refine w_TTold ?_
                    show tCallS _ _ _ _ _ _
                    left
                    refine ⟨p, l, xs, x, y, _, _, rfl, d9.mem, px9, py9, fun _ dd H' hd sm hxd => (show ToldE CA CB gg _ (.ref CA) (some dd) H' from ⟨dd, x, rfl, ox9.same sm, .inl ⟨rfl, hxd, fun q2 hq2 => ?_⟩⟩), fun e => (by rw [hxl, ea] at e; cases e), fun t' j' et _ ht' _ => ?_⟩
                    · have et0 := txR_same (g := gg) (Same.new (o := .tup [.str "octet", .str (txR gg H8 y)]) hq0) ox8
                      rw [(txR_same sm ox9).trans ((txR_keep k9 ox8).trans et0.symm)]
                      left
                      refine ⟨_, _, rfl, rep_pair upd_same (hg_new hq2 (sm _ _ hq9)) (.str _), fun H10 sm10 => ?_⟩
                      have hq10 := sm10 _ _ (hg_new hq2 (sm _ _ hq9))
                      left
                      exact ⟨⟨xs, hxl, hx, (d9.same ap ((sm.trans (Same.new hq2)).trans sm10)).up (by omega)⟩, _, rfl⟩
                    · exfalso
                      subst et
                      rw [show adrV (m : Int) (.int t') = true from decide_eq_true (by omega)] at ea
                      cases ea
                  | true =>
                    obtain ⟨t, rfl, ht⟩ := adr_true ea
                    left
                    refine ⟨(d8.same ap (Same.new hq0)).ht, fun H9 ex9 tb9 => ?_⟩
                    have d9 := (d8.same ap (Same.new hq0)).ext ap ex9 tb9
                    have k9 : KeepN H8 H9 := fun b o h n => ex9 b o ((Same.new hq0) b o h) n
                    have hq9 := ex9 _ _ upd_same (fun _ z => by cases z)
                    obtain ⟨dx, hp9⟩ := d9.hp

                    have oy9 := oy8.keep k9
                    obtain ⟨ty9, py9⟩ := oy9.pl
                    refine w_TTold ?_
                    show tCallS _ _ _ _ _ _
                    left
                    refine ⟨p, l, xs, .int t, y, _, _, rfl, d9.mem, .int _, py9, fun e => (by rw [hxl, ea] at e; cases e), fun _ _ dd H' hd sm hxd => (show ToldE CA CB gg _ (.ref CB) (some dd) H' from ⟨dd, y, rfl, oy9.same sm, .inr ⟨rfl, hxd, fun q2 hq2 => ?_⟩⟩), fun t' j' et ej ht' hj' => ?_⟩
                    · rw [(txR_same sm oy9).trans (txR_keep k9 oy8)]
                      left
                      refine ⟨_, _, rfl, rep_pair upd_same (hg_new hq2 (sm _ _ hq9)) (.str _), fun H10 sm10 => ?_⟩
                      have hq10 := sm10 _ _ (hg_new hq2 (sm _ _ hq9))
                      left
                      exact ⟨⟨xs, hxl, hx, (d9.same ap ((sm.trans (Same.new hq2)).trans sm10)).up (by omega)⟩, _, rfl⟩
                    · exfalso
                      subst ej
                      rw [show adrV (256 : Int) (.int j') = true from decide_eq_true hj'] at eo
                      cases eo
          · left
            refine ⟨st, ls, _, _, rfl, d6x.hs, by omega, by omega, by omega, fun v H6 v0 w1 hs6 fr6 => ?_⟩
            have d6 := d6x.fr ap hs6 fr6
            left
            refine w_iteI (fun ex => ?_) (fun ex => ?_)
            · left
              refine ⟨st, ls, _, vl, _, rfl, d6.hs, by omega, d6.hv, ap.qv.1.1, ap.qv.1.2, by show 0 < 8; decide, by show 8 < 1000000; decide, fun y H7 hy hs7 fr7 => ?_⟩
              have d7 := d6.fr ap hs7 fr7
              left
              exact ⟨y, .inl hy, d7, rfl⟩
            · left
              refine ⟨st, ls, _, _, rfl, d6.hs, by omega, by omega, by omega, fun v2 H7 z0 z1 hs7 fr7 => ?_⟩
              have d7 := d6.fr ap hs7 fr7
              left
              exact ⟨.int v2, .inr ⟨v2, rfl, by omega, by omega⟩, d7, rfl⟩
        · left
          refine ⟨st, ls, _, _, rfl, d5.hs, by omega, by omega, by omega, fun v H6 v0 w1 hs6 fr6 => ?_⟩
          have d6 := d5.fr ap hs6 fr6
          left
          refine w_iteI (fun ex => ?_) (fun ex => ?_)
          · left
            refine ⟨st, ls, _, od, _, rfl, d6.hs, by omega, d6.ho, ap.qo.1.1, ap.qo.1.2, by show 0 < 14; decide, by show 14 < 1000000; decide, fun y H7 hy hs7 fr7 => ?_⟩
            have d7 := d6.fr ap hs7 fr7
            left
            exact ⟨y, .inl hy, d7, rfl⟩
          · left
            refine ⟨st, ls, _, _, rfl, d6.hs, by omega, by omega, by omega, fun v2 H7 z0 z1 hs7 fr7 => ?_⟩
            have d7 := d6.fr ap hs7 fr7
            left
            exact ⟨.int v2, .inr ⟨v2, rfl, by omega, by omega⟩, d7, rfl⟩
      · rintro σ H5 ⟨⟨xs, _, _, d5⟩, u7, u8, u9, u11, u12, rfl⟩
        exact ⟨d5.hs.up (by omega), d5.ht, _, _, _, _, _, _, _, _, _, _, _, rfl⟩
    · rintro σ H1 ⟨hs1, ht1, u2, u3, u4, u5, u6, u7, u8, u9, u10, u11, u12, rfl⟩
      left
      refine mk_int (n := 1) (by decide) fun p l H3 hM sm hp hl => ?_
      have hs3 := hs1.fr sm
      have hM3 := hM
      obtain ⟨dx, hp3⟩ : ∃ dx, H3 p = some (.ins C dx [("cells", .ref l)]) := hM.2.imp fun dx h => h.1
      left
      refine ⟨by show 1 ≤ sizeLine; decide, fun q hq => ?_⟩
      left
      refine ⟨p, l, q, 0, 0, _, rfl, hM.fr (fun o h => hg_new hq h) (fun o h => hg_new hq h), upd_same, .inl rfl, fun H4 => ?_⟩
      left
      refine mk_int (n := 1) (by decide) fun p l H5 hM sm hp hl => ?_
      left
      refine ⟨by show 1 ≤ sizeLine; decide, fun q hq => ?_⟩
      left
      refine ⟨p, l, q, 0, 0, _, rfl, hM.fr (fun o h => hg_new hq h) (fun o h => hg_new hq h), upd_same, .inr rfl, fun H6 => ?_⟩
      left
      exact k _
end

/-- an error of the class at S is what «except S» names -/
theorem exm_self {K : PySem.W.Frag} {S : Addr} (h1 : PySem.W.subIn K (.ref S) (.type "BaseException") = some true) (h2 : PySem.W.isClsIn K S = true) (h3 : PySem.W.typeIn K (.ref S) = some (.type "type")) (h4 : PySem.W.subIn K (.ref S) (.ref S) = some true) :
    PySem.W.exmOne K (.ref S) (.ref S) = some true := by
  have e1 : (PySem.W.subIn K (.ref S) (.type "BaseException") == some true) = true := by rw [h1] <;> rfl
  have e2 : ((PySem.W.clsIn K S).isSome && PySem.W.typeIn K (.ref S) == some (.type "type")) = true := by
    have h2' : (PySem.W.clsIn K S).isSome = true := h2
    rw [h2', h3] <;> rfl
  show (if (PySem.W.subIn K (.ref S) (.type "BaseException") == some true) = true then (if ((PySem.W.clsIn K S).isSome && PySem.W.typeIn K (.ref S) == some (.type "type")) = true then PySem.W.subIn K (.ref S) (.ref S) else none) else none) = some true
  rw [if_pos e1, if_pos e2]
  exact h4
theorem exm_other {K : PySem.W.Frag} {S D : Addr} (h1 : PySem.W.subIn K (.ref D) (.type "BaseException") = some true) (h2 : PySem.W.isClsIn K D = true) (h3 : PySem.W.typeIn K (.ref D) = some (.type "type")) (h4 : PySem.W.subIn K (.ref S) (.ref D) = some false) :
    PySem.W.exmOne K (.ref S) (.ref D) = some false := by
  have e1 : (PySem.W.subIn K (.ref D) (.type "BaseException") == some true) = true := by rw [h1] <;> rfl
  have e2 : ((PySem.W.clsIn K D).isSome && PySem.W.typeIn K (.ref D) == some (.type "type")) = true := by
    have h2' : (PySem.W.clsIn K D).isSome = true := h2
    rw [h2', h3] <;> rfl
  show (if (PySem.W.subIn K (.ref D) (.type "BaseException") == some true) = true then (if ((PySem.W.clsIn K D).isSome && PySem.W.typeIn K (.ref D) == some (.type "type")) = true then PySem.W.subIn K (.ref S) (.ref D) else none) else none) = some false
  rw [if_pos e1, if_pos e2]
  exact h4
theorem kit_below {K : PySem.W.Frag} {C D : Addr} (h1 : PySem.W.isClsIn K D = true) (h2 : PySem.W.typeIn K (.ref D) = some (.type "type")) (h3 : PySem.W.subIn K (.ref C) (.ref D) = some true) : PySem.W.kitCls K (.ref C) (.ref D) = some true := by
  have e2 : ((PySem.W.clsIn K D).isSome && PySem.W.typeIn K (.ref D) == some (.type "type")) = true := by
    have h1' : (PySem.W.clsIn K D).isSome = true := h1
    rw [h1', h2] <;> rfl
  show (if ((PySem.W.clsIn K D).isSome && PySem.W.typeIn K (.ref D) == some (.type "type")) = true then PySem.W.subIn K (.ref C) (.ref D) else none) = some true
  rw [if_pos e2]
  exact h3
theorem DefM.spec {P : Program} {w : World} {K : PySem.W.Frag} {mg : Str → Option Value} {base : Heap} {C : Addr} {m qual : Str} {st : Stmt} {ps : List Str} {k : Nat} {sp : Sp} (D : DefM K C m qual st ps) (q : PySem.W.noSeq K C = true) (h : ∀ f fd, Fun K m qual st f fd → FnOk P w K mg base (L2.CX P w) k f fd ps sp) : SpecOk P w K mg base C m k sp := by
  obtain ⟨f, fd, F, g, b⟩ := D.ex
  refine ⟨q, f, fd, ps, g.at_, ?_, g.fn, b, h f fd F⟩
  obtain ⟨oc, od, kV, doc, pm, an, cdv, ct, osl, e1, e2, _⟩ := F.ex
  unfold PySem.W.fnIn
  rw [e2]
theorem all_mk {l : PySem.W.OpenLaw} {w : World} {K : PySem.W.Frag} {h : Heap} {mg : Str → Option Value} {fa : Addr} (X : K.In h) (G : h.Ns mainGlobals mg) (hfa : mg "law" = some (.ref fa))
    {f0 : Addr} {od0 an0 : Option Addr} {sl0 : Array (Option Value)} {oc0 kV0 dc0 pm0 cd0 ct0 : Value}
    {f1 : Addr} {od1 an1 : Option Addr} {sl1 : Array (Option Value)} {oc1 kV1 dc1 pm1 cd1 ct1 : Value}
    {f2 : Addr} {od2 an2 : Option Addr} {sl2 : Array (Option Value)} {oc2 kV2 dc2 pm2 cd2 ct2 : Value}
    {f3 : Addr} {od3 an3 : Option Addr} {sl3 : Array (Option Value)} {oc3 kV3 dc3 pm3 cd3 ct3 : Value}
    {f4 : Addr} {od4 an4 : Option Addr} {sl4 : Array (Option Value)} {oc4 kV4 dc4 pm4 cd4 ct4 : Value}
    {f5 : Addr} {od5 an5 : Option Addr} {sl5 : Array (Option Value)} {oc5 kV5 dc5 pm5 cd5 ct5 : Value}
    {f6 : Addr} {od6 an6 : Option Addr} {sl6 : Array (Option Value)} {oc6 kV6 dc6 pm6 cd6 ct6 : Value}
    {f7 : Addr} {od7 an7 : Option Addr} {sl7 : Array (Option Value)} {oc7 kV7 dc7 pm7 cd7 ct7 : Value}
    {f8 : Addr} {od8 an8 : Option Addr} {sl8 : Array (Option Value)} {oc8 kV8 dc8 pm8 cd8 ct8 : Value}
    {f9 : Addr} {od9 an9 : Option Addr} {sl9 : Array (Option Value)} {oc9 kV9 dc9 pm9 cd9 ct9 : Value}
    {f10 : Addr} {od10 an10 : Option Addr} {sl10 : Array (Option Value)} {oc10 kV10 dc10 pm10 cd10 ct10 : Value}
    {f11 : Addr} {od11 an11 : Option Addr} {sl11 : Array (Option Value)} {oc11 kV11 dc11 pm11 cd11 ct11 : Value}
    {C_Memory : Addr}
    {f12 : Addr} {od12 an12 : Option Addr} {sl12 : Array (Option Value)} {oc12 kV12 dc12 pm12 cd12 ct12 : Value}
    {f13 : Addr} {od13 an13 : Option Addr} {sl13 : Array (Option Value)} {oc13 kV13 dc13 pm13 cd13 ct13 : Value}
    {f14 : Addr} {od14 an14 : Option Addr} {sl14 : Array (Option Value)} {oc14 kV14 dc14 pm14 cd14 ct14 : Value}
    {f15 : Addr} {od15 an15 : Option Addr} {sl15 : Array (Option Value)} {oc15 kV15 dc15 pm15 cd15 ct15 : Value}
    {C_BadOctet B_BadOctet N_BadOctet : Addr} {nm_BadOctet q_BadOctet : Str} {bs_BadOctet sub_BadOctet : List Value} {sn_BadOctet : List Str} {ab_BadOctet : Bool} {col_BadOctet : Option Bool} {dd_BadOctet : Option Addr} {m0_BadOctet m1_BadOctet m2_BadOctet m3_BadOctet m5_BadOctet : Option Value}
    {f16 : Addr} {od16 an16 : Option Addr} {sl16 : Array (Option Value)} {oc16 kV16 dc16 pm16 cd16 ct16 : Value}
    {C_BadAddress B_BadAddress N_BadAddress : Addr} {nm_BadAddress q_BadAddress : Str} {bs_BadAddress sub_BadAddress : List Value} {sn_BadAddress : List Str} {ab_BadAddress : Bool} {col_BadAddress : Option Bool} {dd_BadAddress : Option Addr} {m0_BadAddress m1_BadAddress m2_BadAddress m3_BadAddress m5_BadAddress : Option Value}
    {f17 : Addr} {od17 an17 : Option Addr} {sl17 : Array (Option Value)} {oc17 kV17 dc17 pm17 cd17 ct17 : Value}
    {f18 : Addr} {od18 an18 : Option Addr} {sl18 : Array (Option Value)} {oc18 kV18 dc18 pm18 ct18 : Value}
    {cA Pt : Addr}
    (hP : h.get? Pt = some { cls := .none, data := .fields #[] })
    (a0 : PySem.W.nsIn K mainGlobals "is_whole" = some (some (.ref f0)))
    (l0 : K.lookup f0 = some ⟨oc0, od0, .func (PySem.W.fnOf "is_whole" "is_whole" (defArgs s_is_whole) (defBody s_is_whole) (defScope s_is_whole) .none kV0 dc0 pm0 an0 cd0 ct0), sl0⟩)
    (c0 : PySem.W.codeIn K cd0 "is_whole" = true)
    (k0 : PySem.W.keepIn K (.ref f0) = true)
    (a1 : PySem.W.nsIn K mainGlobals "is_octet" = some (some (.ref f1)))
    (l1 : K.lookup f1 = some ⟨oc1, od1, .func (PySem.W.fnOf "is_octet" "is_octet" (defArgs s_is_octet) (defBody s_is_octet) (defScope s_is_octet) .none kV1 dc1 pm1 an1 cd1 ct1), sl1⟩)
    (c1 : PySem.W.codeIn K cd1 "is_octet" = true)
    (k1 : PySem.W.keepIn K (.ref f1) = true)
    (a2 : PySem.W.nsIn K mainGlobals "is_address" = some (some (.ref f2)))
    (l2 : K.lookup f2 = some ⟨oc2, od2, .func (PySem.W.fnOf "is_address" "is_address" (defArgs s_is_address) (defBody s_is_address) (defScope s_is_address) .none kV2 dc2 pm2 an2 cd2 ct2), sl2⟩)
    (c2 : PySem.W.codeIn K cd2 "is_address" = true)
    (k2 : PySem.W.keepIn K (.ref f2) = true)
    (a3 : PySem.W.nsIn K mainGlobals "checked_octets" = some (some (.ref f3)))
    (l3 : K.lookup f3 = some ⟨oc3, od3, .func (PySem.W.fnOf "checked_octets" "checked_octets" (defArgs s_checked_octets) (defBody s_checked_octets) (defScope s_checked_octets) .none kV3 dc3 pm3 an3 cd3 ct3), sl3⟩)
    (c3 : PySem.W.codeIn K cd3 "checked_octets" = true)
    (k3 : PySem.W.keepIn K (.ref f3) = true)
    (a4 : PySem.W.nsIn K mainGlobals "_law_draw" = some (some (.ref f4)))
    (l4 : K.lookup f4 = some ⟨oc4, od4, .func (PySem.W.fnOf "_law_draw" "_law_draw" (defArgs s__law_draw) (defBody s__law_draw) (defScope s__law_draw) .none kV4 dc4 pm4 an4 cd4 ct4), sl4⟩)
    (c4 : PySem.W.codeIn K cd4 "_law_draw" = true)
    (k4 : PySem.W.keepIn K (.ref f4) = true)
    (a5 : PySem.W.nsIn K mainGlobals "_law_pick" = some (some (.ref f5)))
    (l5 : K.lookup f5 = some ⟨oc5, od5, .func (PySem.W.fnOf "_law_pick" "_law_pick" (defArgs s__law_pick) (defBody s__law_pick) (defScope s__law_pick) .none kV5 dc5 pm5 an5 cd5 ct5), sl5⟩)
    (c5 : PySem.W.codeIn K cd5 "_law_pick" = true)
    (k5 : PySem.W.keepIn K (.ref f5) = true)
    (a6 : PySem.W.nsIn K mainGlobals "_law_same" = some (some (.ref f6)))
    (l6 : K.lookup f6 = some ⟨oc6, od6, .func (PySem.W.fnOf "_law_same" "_law_same" (defArgs s__law_same) (defBody s__law_same) (defScope s__law_same) .none kV6 dc6 pm6 an6 cd6 ct6), sl6⟩)
    (c6 : PySem.W.codeIn K cd6 "_law_same" = true)
    (k6 : PySem.W.keepIn K (.ref f6) = true)
    (a7 : PySem.W.nsIn K mainGlobals "_law_some_octets" = some (some (.ref f7)))
    (l7 : K.lookup f7 = some ⟨oc7, od7, .func (PySem.W.fnOf "_law_some_octets" "_law_some_octets" (defArgs s__law_some_octets) (defBody s__law_some_octets) (defScope s__law_some_octets) .none kV7 dc7 pm7 an7 cd7 ct7), sl7⟩)
    (c7 : PySem.W.codeIn K cd7 "_law_some_octets" = true)
    (k7 : PySem.W.keepIn K (.ref f7) = true)
    (a8 : PySem.W.nsIn K mainGlobals "_law_told" = some (some (.ref f8)))
    (l8 : K.lookup f8 = some ⟨oc8, od8, .func (PySem.W.fnOf "_law_told" "_law_told" (defArgs s__law_told) (defBody s__law_told) (defScope s__law_told) .none kV8 dc8 pm8 an8 cd8 ct8), sl8⟩)
    (c8 : PySem.W.codeIn K cd8 "_law_told" = true)
    (k8 : PySem.W.keepIn K (.ref f8) = true)
    (a9 : PySem.W.nsIn K mainGlobals "_law_set" = some (some (.ref f9)))
    (l9 : K.lookup f9 = some ⟨oc9, od9, .func (PySem.W.fnOf "_law_set" "_law_set" (defArgs s__law_set) (defBody s__law_set) (defScope s__law_set) .none kV9 dc9 pm9 an9 cd9 ct9), sl9⟩)
    (c9 : PySem.W.codeIn K cd9 "_law_set" = true)
    (k9 : PySem.W.keepIn K (.ref f9) = true)
    (a10 : PySem.W.nsIn K mainGlobals "_law_is_place" = some (some (.ref f10)))
    (l10 : K.lookup f10 = some ⟨oc10, od10, .func (PySem.W.fnOf "_law_is_place" "_law_is_place" (defArgs s__law_is_place) (defBody s__law_is_place) (defScope s__law_is_place) .none kV10 dc10 pm10 an10 cd10 ct10), sl10⟩)
    (c10 : PySem.W.codeIn K cd10 "_law_is_place" = true)
    (k10 : PySem.W.keepIn K (.ref f10) = true)
    (a11 : PySem.W.nsIn K mainGlobals "_law_is_very" = some (some (.ref f11)))
    (l11 : K.lookup f11 = some ⟨oc11, od11, .func (PySem.W.fnOf "_law_is_very" "_law_is_very" (defArgs s__law_is_very) (defBody s__law_is_very) (defScope s__law_is_very) .none kV11 dc11 pm11 an11 cd11 ct11), sl11⟩)
    (c11 : PySem.W.codeIn K cd11 "_law_is_very" = true)
    (k11 : PySem.W.keepIn K (.ref f11) = true)
    (aC_Memory : PySem.W.nsIn K mainGlobals "Memory" = some (some (.ref C_Memory)))
    (pg_Memory : PySem.W.plainGet K C_Memory Str.empty = true)
    (hd_Memory : PySem.W.hasDictIn K C_Memory = true)
    (po_Memory : PySem.W.plainOver K C_Memory = true)
    (sa_Memory : PySem.W.findIn K (.ref C_Memory) "__setattr__" = some (some (.builtin "object.__setattr__")))
    (mk_Memory : PySem.W.makesIn K C_Memory = true)
    (kc_Memory : PySem.W.keepIn K (.ref C_Memory) = true)
    (n_Memory_cells : PySem.W.findIn K (.ref C_Memory) "cells" = some none)
    (a12 : PySem.W.findIn K (.ref C_Memory) "__init__" = some (some (.ref f12)))
    (i12 : PySem.W.isFn K (.ref f12) = true)
    (l12 : K.lookup f12 = some ⟨oc12, od12, .func (PySem.W.fnOf "__init__" "Memory.__init__" (defArgs s_Memory___init__) (defBody s_Memory___init__) (defScope s_Memory___init__) .none kV12 dc12 pm12 an12 cd12 ct12), sl12⟩)
    (c12 : PySem.W.codeIn K cd12 "Memory.__init__" = true)
    (k12 : PySem.W.keepIn K (.ref f12) = true)
    (a13 : PySem.W.findIn K (.ref C_Memory) "__getitem__" = some (some (.ref f13)))
    (i13 : PySem.W.isFn K (.ref f13) = true)
    (l13 : K.lookup f13 = some ⟨oc13, od13, .func (PySem.W.fnOf "__getitem__" "Memory.__getitem__" (defArgs s_Memory___getitem__) (defBody s_Memory___getitem__) (defScope s_Memory___getitem__) .none kV13 dc13 pm13 an13 cd13 ct13), sl13⟩)
    (c13 : PySem.W.codeIn K cd13 "Memory.__getitem__" = true)
    (k13 : PySem.W.keepIn K (.ref f13) = true)
    (a14 : PySem.W.findIn K (.ref C_Memory) "__setitem__" = some (some (.ref f14)))
    (i14 : PySem.W.isFn K (.ref f14) = true)
    (l14 : K.lookup f14 = some ⟨oc14, od14, .func (PySem.W.fnOf "__setitem__" "Memory.__setitem__" (defArgs s_Memory___setitem__) (defBody s_Memory___setitem__) (defScope s_Memory___setitem__) .none kV14 dc14 pm14 an14 cd14 ct14), sl14⟩)
    (c14 : PySem.W.codeIn K cd14 "Memory.__setitem__" = true)
    (k14 : PySem.W.keepIn K (.ref f14) = true)
    (a15 : PySem.W.findIn K (.ref C_Memory) "octets" = some (some (.ref f15)))
    (i15 : PySem.W.isFn K (.ref f15) = true)
    (l15 : K.lookup f15 = some ⟨oc15, od15, .func (PySem.W.fnOf "octets" "Memory.octets" (defArgs s_Memory_octets) (defBody s_Memory_octets) (defScope s_Memory_octets) .none kV15 dc15 pm15 an15 cd15 ct15), sl15⟩)
    (c15 : PySem.W.codeIn K cd15 "Memory.octets" = true)
    (k15 : PySem.W.keepIn K (.ref f15) = true)
    (aE_BadOctet : PySem.W.nsIn K mainGlobals "BadOctet" = some (some (.ref C_BadOctet)))
    (xL_BadOctet : K.lookup C_BadOctet = some (excClassObj nm_BadOctet q_BadOctet C_BadOctet N_BadOctet bs_BadOctet [.ref B_BadOctet, .type "ValueError", .type "Exception", .type "BaseException", .type "object"] true sn_BadOctet sub_BadOctet ab_BadOctet col_BadOctet dd_BadOctet m0_BadOctet m1_BadOctet m2_BadOctet m3_BadOctet m5_BadOctet "ValueError.__new__"))
    (sE_BadOctet : PySem.W.findIn K (.ref C_BadOctet) "__setattr__" = some (some (.builtin "object.__setattr__")))
    (gE_BadOctet : PySem.W.findIn K (.ref C_BadOctet) "__getattribute__" = some (some (.builtin "BaseException.__getattribute__")))
    (hE_BadOctet : PySem.W.findIn K (.ref C_BadOctet) "__getattr__" = some none)
    (nE_BadOctet : PySem.W.findIn K (.ref C_BadOctet) "value" = some none)
    (kE_BadOctet : PySem.W.keepIn K (.ref C_BadOctet) = true)
    (bE_BadOctet : PySem.W.subIn K (.ref C_BadOctet) (.type "BaseException") = some true)
    (tE_BadOctet : PySem.W.typeIn K (.ref C_BadOctet) = some (.type "type"))
    (dE_BadOctet : PySem.W.hasDictIn K C_BadOctet = true)
    (iE_BadOctet : PySem.W.isClsIn K C_BadOctet = true)
    (uE_BadOctet : PySem.W.subIn K (.ref C_BadOctet) (.ref C_BadOctet) = some true)
    (a16 : PySem.W.findIn K (.ref C_BadOctet) "__init__" = some (some (.ref f16)))
    (l16 : K.lookup f16 = some ⟨oc16, od16, .func (PySem.W.fnOf "__init__" "BadOctet.__init__" (defArgs s_BadOctet___init__) (defBody s_BadOctet___init__) (defScope s_BadOctet___init__) .none kV16 dc16 pm16 an16 cd16 ct16), sl16⟩)
    (c16 : PySem.W.codeIn K cd16 "BadOctet.__init__" = true)
    (k16 : PySem.W.keepIn K (.ref f16) = true)
    (t16 : PySem.W.typeIn K (.ref f16) = some (.type "function"))
    (aE_BadAddress : PySem.W.nsIn K mainGlobals "BadAddress" = some (some (.ref C_BadAddress)))
    (xL_BadAddress : K.lookup C_BadAddress = some (excClassObj nm_BadAddress q_BadAddress C_BadAddress N_BadAddress bs_BadAddress [.ref B_BadAddress, .type "ValueError", .type "Exception", .type "BaseException", .type "object"] true sn_BadAddress sub_BadAddress ab_BadAddress col_BadAddress dd_BadAddress m0_BadAddress m1_BadAddress m2_BadAddress m3_BadAddress m5_BadAddress "ValueError.__new__"))
    (sE_BadAddress : PySem.W.findIn K (.ref C_BadAddress) "__setattr__" = some (some (.builtin "object.__setattr__")))
    (gE_BadAddress : PySem.W.findIn K (.ref C_BadAddress) "__getattribute__" = some (some (.builtin "BaseException.__getattribute__")))
    (hE_BadAddress : PySem.W.findIn K (.ref C_BadAddress) "__getattr__" = some none)
    (nE_BadAddress : PySem.W.findIn K (.ref C_BadAddress) "octet" = some none)
    (kE_BadAddress : PySem.W.keepIn K (.ref C_BadAddress) = true)
    (bE_BadAddress : PySem.W.subIn K (.ref C_BadAddress) (.type "BaseException") = some true)
    (tE_BadAddress : PySem.W.typeIn K (.ref C_BadAddress) = some (.type "type"))
    (dE_BadAddress : PySem.W.hasDictIn K C_BadAddress = true)
    (iE_BadAddress : PySem.W.isClsIn K C_BadAddress = true)
    (uE_BadAddress : PySem.W.subIn K (.ref C_BadAddress) (.ref C_BadAddress) = some true)
    (a17 : PySem.W.findIn K (.ref C_BadAddress) "__init__" = some (some (.ref f17)))
    (l17 : K.lookup f17 = some ⟨oc17, od17, .func (PySem.W.fnOf "__init__" "BadAddress.__init__" (defArgs s_BadAddress___init__) (defBody s_BadAddress___init__) (defScope s_BadAddress___init__) .none kV17 dc17 pm17 an17 cd17 ct17), sl17⟩)
    (c17 : PySem.W.codeIn K cd17 "BadAddress.__init__" = true)
    (k17 : PySem.W.keepIn K (.ref f17) = true)
    (t17 : PySem.W.typeIn K (.ref f17) = some (.type "function"))
    (na_BadOctet_BadAddress : PySem.W.subIn K (.ref C_BadOctet) (.ref C_BadAddress) = some false)
    (q_Memory : PySem.W.noSeq K C_Memory = true)
    (a18 : PySem.W.nsIn K mainGlobals "law" = some (some (.ref f18)))
    (l18 : K.lookup f18 = some ⟨oc18, od18, .func (PySem.W.fnOf "law" "law" (defArgs s_law) (defBody s_law) (defScope s_law) .none kV18 dc18 pm18 an18 (.ref cA) ct18), sl18⟩)
    (c18 : PySem.W.codeIn K (.ref cA) "law" = true)
    (k18 : PySem.W.keepIn K (.ref f18) = true)
    (hCd : PySem.W.codeHdIn K cA Pt = true)
    (hNo : K.lookup Pt = none)
    (z_int : PySem.W.nsIn K mainGlobals "int" = some none)
    (z_len : PySem.W.nsIn K mainGlobals "len" = some none)
    (z_isinstance : PySem.W.nsIn K mainGlobals "isinstance" = some none)
    (z_bool : PySem.W.nsIn K mainGlobals "bool" = some none)
    (z_list : PySem.W.nsIn K mainGlobals "list" = some none)
    (z_tuple : PySem.W.nsIn K mainGlobals "tuple" = some none)
    (z_dict : PySem.W.nsIn K mainGlobals "dict" = some none)
    (z_range : PySem.W.nsIn K mainGlobals "range" = some none)
    (z_zip : PySem.W.nsIn K mainGlobals "zip" = some none)
    (z_all : PySem.W.nsIn K mainGlobals "all" = some none)
    (z_repr : PySem.W.nsIn K mainGlobals "repr" = some none) :
    LamX.LawAtS l w K CX0 14 63 "_law_script" mg fa h := by
  have e := hfa.symm.trans (PySem.W.mg_of X G a18)
  cases e
  have F0 := fun_mk (st := s_is_whole) l0 c0 k0
  have Df_is_whole : Def K mg "is_whole" s_is_whole P_is_whole := ⟨⟨_, _, F0, PySem.W.mg_of X G a0, F0.binds (ps := ["value"]) fun _ _ _ _ _ _ us hl => match us, hl with | [_], _ => rfl⟩⟩
  have F1 := fun_mk (st := s_is_octet) l1 c1 k1
  have Df_is_octet : Def K mg "is_octet" s_is_octet P_is_octet := ⟨⟨_, _, F1, PySem.W.mg_of X G a1, F1.binds (ps := ["value"]) fun _ _ _ _ _ _ us hl => match us, hl with | [_], _ => rfl⟩⟩
  have F2 := fun_mk (st := s_is_address) l2 c2 k2
  have Df_is_address : Def K mg "is_address" s_is_address P_is_address := ⟨⟨_, _, F2, PySem.W.mg_of X G a2, F2.binds (ps := ["value", "length"]) fun _ _ _ _ _ _ us hl => match us, hl with | [_, _], _ => rfl⟩⟩
  have F3 := fun_mk (st := s_checked_octets) l3 c3 k3
  have Df_checked_octets : Def K mg "checked_octets" s_checked_octets P_checked_octets := ⟨⟨_, _, F3, PySem.W.mg_of X G a3, F3.binds (ps := ["octets"]) fun _ _ _ _ _ _ us hl => match us, hl with | [_], _ => rfl⟩⟩
  have F4 := fun_mk (st := s__law_draw) l4 c4 k4
  have Df__law_draw : Def K mg "_law_draw" s__law_draw P__law_draw := ⟨⟨_, _, F4, PySem.W.mg_of X G a4, F4.binds (ps := ["_law_stream", "_law_many"]) fun _ _ _ _ _ _ us hl => match us, hl with | [_, _], _ => rfl⟩⟩
  have F5 := fun_mk (st := s__law_pick) l5 c5 k5
  have Df__law_pick : Def K mg "_law_pick" s__law_pick P__law_pick := ⟨⟨_, _, F5, PySem.W.mg_of X G a5, F5.binds (ps := ["_law_stream", "_law_some"]) fun _ _ _ _ _ _ us hl => match us, hl with | [_, _], _ => rfl⟩⟩
  have F6 := fun_mk (st := s__law_same) l6 c6 k6
  have Df__law_same : Def K mg "_law_same" s__law_same P__law_same := ⟨⟨_, _, F6, PySem.W.mg_of X G a6, F6.binds (ps := ["_law_found", "_law_due"]) fun _ _ _ _ _ _ us hl => match us, hl with | [_, _], _ => rfl⟩⟩
  have F7 := fun_mk (st := s__law_some_octets) l7 c7 k7
  have Df__law_some_octets : Def K mg "_law_some_octets" s__law_some_octets P__law_some_octets := ⟨⟨_, _, F7, PySem.W.mg_of X G a7, F7.binds (ps := ["_law_stream", "_law_many"]) fun _ _ _ _ _ _ us hl => match us, hl with | [_, _], _ => rfl⟩⟩
  have F8 := fun_mk (st := s__law_told) l8 c8 k8
  have Df__law_told : Def K mg "_law_told" s__law_told P__law_told := ⟨⟨_, _, F8, PySem.W.mg_of X G a8, F8.binds (ps := ["_law_ask"]) fun _ _ _ _ _ _ us hl => match us, hl with | [_], _ => rfl⟩⟩
  have F9 := fun_mk (st := s__law_set) l9 c9 k9
  have Df__law_set : Def K mg "_law_set" s__law_set P__law_set := ⟨⟨_, _, F9, PySem.W.mg_of X G a9, F9.binds (ps := ["_law_memory", "_law_k", "_law_value"]) fun _ _ _ _ _ _ us hl => match us, hl with | [_, _, _], _ => rfl⟩⟩
  have F10 := fun_mk (st := s__law_is_place) l10 c10 k10
  have Df__law_is_place : Def K mg "_law_is_place" s__law_is_place P__law_is_place := ⟨⟨_, _, F10, PySem.W.mg_of X G a10, F10.binds (ps := ["_law_thing", "_law_many"]) fun _ _ _ _ _ _ us hl => match us, hl with | [_, _], _ => rfl⟩⟩
  have F11 := fun_mk (st := s__law_is_very) l11 c11 k11
  have Df__law_is_very : Def K mg "_law_is_very" s__law_is_very P__law_is_very := ⟨⟨_, _, F11, PySem.W.mg_of X G a11, F11.binds (ps := ["_law_memory", "_law_thing", "_law_word"]) fun _ _ _ _ _ _ us hl => match us, hl with | [_, _, _], _ => rfl⟩⟩
  have c_Memory : Cls K C_Memory := ⟨pg_Memory, hd_Memory, po_Memory, sa_Memory⟩
  have F12 := fun_mk (st := s_Memory___init__) l12 c12 k12
  have Dk_Memory : ∃ f fd, Fun K "__init__" "Memory.__init__" s_Memory___init__ f fd ∧ Mk K C_Memory f ∧ Binds K fd P_Memory___init__ [] := ⟨_, _, F12, ⟨mk_Memory, a12, i12, kc_Memory⟩, F12.binds (ps := ["self", "octets"]) fun _ _ _ _ _ _ us hl => match us, hl with | [_, _], _ => rfl⟩
  have F13 := fun_mk (st := s_Memory___getitem__) l13 c13 k13
  have Dm_Memory___getitem__ : DefM K C_Memory "__getitem__" "Memory.__getitem__" s_Memory___getitem__ P_Memory___getitem__ := ⟨⟨_, _, F13, ⟨a13, i13, k13⟩, F13.binds (ps := ["self", "at"]) fun _ _ _ _ _ _ us hl => match us, hl with | [_, _], _ => rfl⟩⟩
  have F14 := fun_mk (st := s_Memory___setitem__) l14 c14 k14
  have Dm_Memory___setitem__ : DefM K C_Memory "__setitem__" "Memory.__setitem__" s_Memory___setitem__ P_Memory___setitem__ := ⟨⟨_, _, F14, ⟨a14, i14, k14⟩, F14.binds (ps := ["self", "at", "worth"]) fun _ _ _ _ _ _ us hl => match us, hl with | [_, _, _], _ => rfl⟩⟩
  have F15 := fun_mk (st := s_Memory_octets) l15 c15 k15
  have Dm_Memory_octets : DefM K C_Memory "octets" "Memory.octets" s_Memory_octets P_Memory_octets := ⟨⟨_, _, F15, ⟨a15, i15, k15⟩, F15.binds (ps := ["self"]) fun _ _ _ _ _ _ us hl => match us, hl with | [_], _ => rfl⟩⟩
  have F16 := fun_mk (st := s_BadOctet___init__) l16 c16 k16
  have ox_BadOctet : OexC K C_BadOctet := ⟨⟨_, _, _, _, _, _, _, _, _, _, _, _, _, _, _, xL_BadOctet, by show PySem.HandSPX.refsVE PySem.HandSPX.veTail = true; decide +kernel⟩, sE_BadOctet, bE_BadOctet, tE_BadOctet, kE_BadOctet⟩
  have te_BadOctet : PySem.W.exmOne K (.ref C_BadOctet) (.ref C_BadOctet) = some true := exm_self bE_BadOctet iE_BadOctet tE_BadOctet uE_BadOctet
  have E_BadOctet : ∀ base, ErrOk l.prog w K mg base "BadOctet" C_BadOctet "value" := fun base => ⟨PySem.W.mg_of X G aE_BadOctet, ox_BadOctet, ⟨gE_BadOctet, hE_BadOctet, bE_BadOctet, dE_BadOctet⟩, nE_BadOctet, ⟨_, _, _, a16, t16, F16.binds (ps := ["self", "value"]) fun _ _ _ _ _ _ us hl => match us, hl with | [_, _], _ => rfl, ok_err_BadOctet F16 ox_BadOctet nE_BadOctet⟩⟩
  have F17 := fun_mk (st := s_BadAddress___init__) l17 c17 k17
  have ox_BadAddress : OexC K C_BadAddress := ⟨⟨_, _, _, _, _, _, _, _, _, _, _, _, _, _, _, xL_BadAddress, by show PySem.HandSPX.refsVE PySem.HandSPX.veTail = true; decide +kernel⟩, sE_BadAddress, bE_BadAddress, tE_BadAddress, kE_BadAddress⟩
  have te_BadAddress : PySem.W.exmOne K (.ref C_BadAddress) (.ref C_BadAddress) = some true := exm_self bE_BadAddress iE_BadAddress tE_BadAddress uE_BadAddress
  have E_BadAddress : ∀ base, ErrOk l.prog w K mg base "BadAddress" C_BadAddress "octet" := fun base => ⟨PySem.W.mg_of X G aE_BadAddress, ox_BadAddress, ⟨gE_BadAddress, hE_BadAddress, bE_BadAddress, dE_BadAddress⟩, nE_BadAddress, ⟨_, _, _, a17, t17, F17.binds (ps := ["self", "octet"]) fun _ _ _ _ _ _ us hl => match us, hl with | [_, _], _ => rfl, ok_err_BadAddress F17 ox_BadAddress nE_BadAddress⟩⟩
  have F18 := fun_mk (st := s_law) l18 c18 k18
  have T : Txt K mg := ⟨PySem.W.mg_none_of X G z_int, PySem.W.mg_none_of X G z_len, PySem.W.mg_none_of X G z_isinstance, PySem.W.mg_none_of X G z_bool, PySem.W.mg_none_of X G z_list, PySem.W.mg_none_of X G z_tuple, PySem.W.mg_none_of X G z_dict, PySem.W.mg_none_of X G z_range, PySem.W.mg_none_of X G z_zip, PySem.W.mg_none_of X G z_all, PySem.W.mg_none_of X G z_repr⟩
  refine ⟨PySem.W.fnOf "law" "law" (defArgs s_law) (defBody s_law) (defScope s_law) .none kV18 dc18 pm18 an18 (.ref cA) ct18, [(cA, Pt)], spLaw K Pt, fun p hp => ?_, fun p hp => ?_, fun p hp => ?_, fun s v => .of_eq rfl, fun H a ns hl _ hH hS => ⟨a, ns, rfl, hS, hl, hH _ (List.mem_singleton.mpr rfl), fun _ => rfl⟩, fun base _ _ hTB => ?_⟩
  · rw [List.mem_singleton.mp hp]; exact hP
  · rw [List.mem_singleton.mp hp]; exact hNo
  · rw [List.mem_singleton.mp hp]; exact PySem.W.codeHd_of_K X hCd
  have TB := hTB _ (List.mem_singleton.mpr rfl)
  have D_is_whole : CallOk l.prog w K mg base "is_whole" 1 spWhole := Df_is_whole.call fun f fd F => ok_whole F T
  have D_is_octet : CallOk l.prog w K mg base "is_octet" 3 spOctet := Df_is_octet.call fun f fd F => ok_octet F T D_is_whole
  have D_is_address : CallOk l.prog w K mg base "is_address" 3 spAddr := Df_is_address.call fun f fd F => ok_addr F T D_is_whole
  have D_checked_octets : CallOk l.prog w K mg base "checked_octets" 5 (spChk C_BadOctet) := Df_checked_octets.callX fun f fd F => ok_chk F T D_is_octet (E_BadOctet base)
  have D__law_draw : CallOk l.prog w K mg base "_law_draw" 1 spDraw := Df__law_draw.call fun f fd F => ok_draw F T
  have D__law_pick : CallOk l.prog w K mg base "_law_pick" 3 spPick := Df__law_pick.call fun f fd F => ok_pick F T D__law_draw
  have D__law_some_octets : CallOk l.prog w K mg base "_law_some_octets" 5 spOcts := Df__law_some_octets.call fun f fd F => ok_octs F T D__law_draw D__law_pick
  have D_Memory : MakeOk l.prog w K mg base "Memory" C_Memory 7 (spMem C_Memory C_BadOctet) := by
    obtain ⟨f, fd, F, M, b⟩ := Dk_Memory
    exact ⟨f, fd, _, M, PySem.W.mg_of X G aC_Memory, b, ok_mem F T c_Memory n_Memory_cells D_is_whole D_checked_octets⟩
  have D_octets : MethOk l.prog w K mg base C_Memory "octets" 1 (spOctsM C_Memory) := Dm_Memory_octets.meth fun f fd F => ok_octsM F T c_Memory n_Memory_cells
  have D_get : SpecOk l.prog w K mg base C_Memory "__getitem__" 5 (spGet C_Memory C_BadAddress) := Dm_Memory___getitem__.spec q_Memory fun f fd F => ok_get F T c_Memory n_Memory_cells D_is_address (E_BadAddress base)
  have D_set : SpecOk l.prog w K mg base C_Memory "__setitem__" 7 (spSetI C_Memory C_BadAddress C_BadOctet) := Dm_Memory___setitem__.spec q_Memory fun f fd F => (ok_setI F T c_Memory n_Memory_cells D_is_address D_is_octet (E_BadAddress base) (E_BadOctet base)).mono (by decide)
  have D__law_set : CallOk l.prog w K mg base "_law_set" 9 (spSetI C_Memory C_BadAddress C_BadOctet) := Df__law_set.callX fun f fd F => ok_set F T D_set
  have D__law_is_place : CallOk l.prog w K mg base "_law_is_place" 1 spAddr := Df__law_is_place.call fun f fd F => ok_isp F T
  have tBA : PySem.W.exmOne K (.ref C_BadOctet) (.ref C_BadAddress) = some false := exm_other bE_BadAddress iE_BadAddress tE_BadAddress na_BadOctet_BadAddress
  have D__law_is_very : CallOk l.prog w K mg base "_law_is_very" 10 (spVery C_Memory) := Df__law_is_very.call fun f fd F => ok_very F T D__law_set (E_BadAddress base) (E_BadOctet base) te_BadAddress te_BadOctet tBA
  have D__law_same : CallOk l.prog w K mg base "_law_same" 3 (spSame 3) := same_all Df__law_same T 3
  exact ok_law l18 c18 T c_Memory (PySem.W.mg_of X G a8) k8 l8 c8 (F8.binds (ps := ["_law_ask"]) fun _ _ _ _ _ _ us hl => match us, hl with | [_], _ => rfl) TB te_BadAddress te_BadOctet tBA (E_BadAddress base) (E_BadOctet base) D__law_draw D__law_pick D__law_some_octets D__law_is_place D__law_is_very D__law_same D_Memory D_octets D_get D__law_set
end FB
open PySem PySem.W PyProof.Rows in
set_option maxRecDepth 100000 in
set_option maxHeartbeats 0 in
theorem PySem.Challenge.cw_fieldberth_k36_octets_read_and_set_holds : PySem.Challenge.rw_fieldberth_k36_octets_read_and_set.Holds := by
  w_on; o_law; k_head; (case hw => w_witness2)
  k_fill
  refine LamX.walk_ofTs (l := PySem.Challenge.rw_fieldberth_k36_octets_read_and_set) (n := 63) (k := 14) (x := "_law_script") (CX := fun _ => L2.CX0) rfl (by decide) rfl ⟨rfl, by decide, by decide⟩ (fun w h Y => PySem.W.km_in_of Y) ?F (fun _ _ _ _ _ z => z)
  case F =>
    intro w mg fa h Y KX G hmg
    refine' FB.all_mk KX G hmg ?hP ?a0 ?l0 ?c0 ?k0 ?a1 ?l1 ?c1 ?k1 ?a2 ?l2 ?c2 ?k2 ?a3 ?l3 ?c3 ?k3 ?a4 ?l4 ?c4 ?k4 ?a5 ?l5 ?c5 ?k5 ?a6 ?l6 ?c6 ?k6 ?a7 ?l7 ?c7 ?k7 ?a8 ?l8 ?c8 ?k8 ?a9 ?l9 ?c9 ?k9 ?a10 ?l10 ?c10 ?k10 ?a11 ?l11 ?c11 ?k11 ?aC_Memory ?pg_Memory ?hd_Memory ?po_Memory ?sa_Memory ?mk_Memory ?kc_Memory ?n_Memory_cells ?a12 ?i12 ?l12 ?c12 ?k12 ?a13 ?i13 ?l13 ?c13 ?k13 ?a14 ?i14 ?l14 ?c14 ?k14 ?a15 ?i15 ?l15 ?c15 ?k15 ?aE_BadOctet ?xL_BadOctet ?sE_BadOctet ?gE_BadOctet ?hE_BadOctet ?nE_BadOctet ?kE_BadOctet ?bE_BadOctet ?tE_BadOctet ?dE_BadOctet ?iE_BadOctet ?uE_BadOctet ?a16 ?l16 ?c16 ?k16 ?t16 ?aE_BadAddress ?xL_BadAddress ?sE_BadAddress ?gE_BadAddress ?hE_BadAddress ?nE_BadAddress ?kE_BadAddress ?bE_BadAddress ?tE_BadAddress ?dE_BadAddress ?iE_BadAddress ?uE_BadAddress ?a17 ?l17 ?c17 ?k17 ?t17 ?na_BadOctet_BadAddress ?q_Memory ?a18 ?l18 ?c18 ?k18 ?hCd ?hNo ?z_int ?z_len ?z_isinstance ?z_bool ?z_list ?z_tuple ?z_dict ?z_range ?z_zip ?z_all ?z_repr
    (case hP => exact PySem.W.km_tabs_of Y _ (List.mem_singleton.mpr rfl))
    (case a0 => k_is)
    (case l0 => k_is)
    (case c0 => k_is)
    (case k0 => k_is)
    (case a1 => k_is)
    (case l1 => k_is)
    (case c1 => k_is)
    (case k1 => k_is)
    (case a2 => k_is)
    (case l2 => k_is)
    (case c2 => k_is)
    (case k2 => k_is)
    (case a3 => k_is)
    (case l3 => k_is)
    (case c3 => k_is)
    (case k3 => k_is)
    (case a4 => k_is)
    (case l4 => k_is)
    (case c4 => k_is)
    (case k4 => k_is)
    (case a5 => k_is)
    (case l5 => k_is)
    (case c5 => k_is)
    (case k5 => k_is)
    (case a6 => k_is)
    (case l6 => k_is)
    (case c6 => k_is)
    (case k6 => k_is)
    (case a7 => k_is)
    (case l7 => k_is)
    (case c7 => k_is)
    (case k7 => k_is)
    (case a8 => k_is)
    (case l8 => k_is)
    (case c8 => k_is)
    (case k8 => k_is)
    (case a9 => k_is)
    (case l9 => k_is)
    (case c9 => k_is)
    (case k9 => k_is)
    (case a10 => k_is)
    (case l10 => k_is)
    (case c10 => k_is)
    (case k10 => k_is)
    (case a11 => k_is)
    (case l11 => k_is)
    (case c11 => k_is)
    (case k11 => k_is)
    (case aC_Memory => k_is)
    (case pg_Memory => k_is)
    (case hd_Memory => k_is)
    (case po_Memory => k_is)
    (case sa_Memory => k_is)
    (case mk_Memory => k_is)
    (case kc_Memory => k_is)
    (case n_Memory_cells => k_is)
    (case a12 => k_is)
    (case i12 => k_is)
    (case l12 => k_is)
    (case c12 => k_is)
    (case k12 => k_is)
    (case a13 => k_is)
    (case i13 => k_is)
    (case l13 => k_is)
    (case c13 => k_is)
    (case k13 => k_is)
    (case a14 => k_is)
    (case i14 => k_is)
    (case l14 => k_is)
    (case c14 => k_is)
    (case k14 => k_is)
    (case a15 => k_is)
    (case i15 => k_is)
    (case l15 => k_is)
    (case c15 => k_is)
    (case k15 => k_is)
    (case aE_BadOctet => k_is)
    (case xL_BadOctet => k_is)
    (case sE_BadOctet => k_is)
    (case gE_BadOctet => k_is)
    (case hE_BadOctet => k_is)
    (case nE_BadOctet => k_is)
    (case kE_BadOctet => k_is)
    (case bE_BadOctet => k_is)
    (case tE_BadOctet => k_is)
    (case dE_BadOctet => k_is)
    (case iE_BadOctet => k_is)
    (case uE_BadOctet => k_is)
    (case a16 => k_is)
    (case l16 => k_is)
    (case c16 => k_is)
    (case k16 => k_is)
    (case t16 => k_is)
    (case aE_BadAddress => k_is)
    (case xL_BadAddress => k_is)
    (case sE_BadAddress => k_is)
    (case gE_BadAddress => k_is)
    (case hE_BadAddress => k_is)
    (case nE_BadAddress => k_is)
    (case kE_BadAddress => k_is)
    (case bE_BadAddress => k_is)
    (case tE_BadAddress => k_is)
    (case dE_BadAddress => k_is)
    (case iE_BadAddress => k_is)
    (case uE_BadAddress => k_is)
    (case a17 => k_is)
    (case l17 => k_is)
    (case c17 => k_is)
    (case k17 => k_is)
    (case t17 => k_is)
    (case na_BadOctet_BadAddress => k_is)
    (case q_Memory => k_is)
    (case a18 => k_is)
    (case l18 => k_is)
    (case c18 => k_is)
    (case k18 => k_is)
    (case hCd => kernel_rfl)
    (case hNo => kernel_rfl)
    (case z_int => k_is)
    (case z_len => k_is)
    (case z_isinstance => k_is)
    (case z_bool => k_is)
    (case z_list => k_is)
    (case z_tuple => k_is)
    (case z_dict => k_is)
    (case z_range => k_is)
    (case z_zip => k_is)
    (case z_all => k_is)
    (case z_repr => k_is)

