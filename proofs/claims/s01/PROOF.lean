import PyProof.Rows.All
import Wide.All
import OpenK.AllK
import Wide.FinOn
import KE.KExcInit
import HandS.ForSpec
import HandS.ExcInit
import HandS.ExcField
import HandS.ForMost
import HandS.Evl
import HandS.HeadHook1
import HandS.Walk
import HandS.Zip
import KE.DataMinMax
import HandS.Comp
import HandS.SortKw
import HandS.Rev
import HandS.RevTup
import PyVbenaj
import HandS.Codes
import HandS.HeadHook2
import HandS.Wide
import PyFlatLaws
import HandS.Head4
import HandS.Spec
import PySem.Challenge.RW_notchplan_s01_answers
set_option Elab.async false
set_option linter.all false
set_option maxRecDepth 100000
set_option maxHeartbeats 4000000
/-! own error classes, one above the other, below Exception: their stores, their making, their reading -/
namespace Er
open PySem PySem.W Builtin Builtin.ObjectAttr
/-- the built-in classes above them -/
abbrev above : List Value := [.type "Exception", .type "BaseException", .type "object"]
section
variable {prog : Program} {w : World} {A : Around} {R : Result → Shared → Prop} {hp : Heap} {g : Array GenState} {dr : Drawn} {t : Nat} {os : OsState} {K : Frag} {e C dx t0 : Addr} {f : Str} {tk : Tok} {v : Value}
/-- a name that no class above has is stored in the error's own dict -/
theorem no_taker (nf : findIn K (.ref C) f = some none) : takerIn K C f = some none := by unfold takerIn; rw [nf]; rfl
/-- the heap in which the error at e has got an empty dict -/
abbrev dicted (hp : Heap) (e : Addr) : Heap := (hp.push (W.dictOf [] 0)).update e fun o => { o with dict := some hp.objs.size }
theorem dicted_err (he : hp.get? e = some (excObj C t0 none .none)) : (dicted hp e).get? e = some (excObj C t0 (some hp.objs.size) .none) := Heap.get?_update_self _ (Heap.get?_push_of_some _ he) rfl
theorem dicted_ns (he : hp.get? e = some (excObj C t0 none .none)) : (dicted hp e).Ns hp.objs.size fun _ => none := by
  have at_ : (dicted hp e).get? hp.objs.size = some (W.dictOf [] 0) := by
    rw [Heap.get?_update_ne _ _ _ _ (Nat.ne_of_gt (Heap.lt_size he))]
    exact Heap.get?_push_size _ rfl
  exact ⟨_, _, _, at_, rfl, fun x hx => absurd hx (by simp), fun _ => rfl⟩
/-- the first field -/
theorem lay (kin : K.In hp) (he : hp.get? e = some (excObj C t0 none .none)) (ov : excOver K C above = true) (hd : hasDictIn K C = true) (nf : findIn K (.ref C) f = some none)
    (q : ∀ h' tk', Heap.SameBut hp.objs.size (dicted hp e) h' → h'.Ns1 hp.objs.size (fun y => if y = f then some v else none) → R (.ok (.ret .none)) ⟨h', g, dr, tk', os⟩) :
    codeAny (model prog w) A (.call (.builtin "object.__setattr__") ⟨[.ref e, .str f tk, v], []⟩) R ⟨hp, g, dr, t, os⟩ := by
  obtain ⟨cd, isCls, has⟩ := any_some hd
  exact osa_openX (od := none) F.store_Exception kin ⟨he, rfl, rfl, trivial⟩ ov (no_taker nf) fun _ =>
    wpAny_bind (wpAny_pure (wpAny_bind (instanceDict_exc he (looks_clsIn kin isCls) has (HandSPX.store_in_new (dicted_ns he) fun h' tk' n1 sm => q h' tk' sm n1))))
/-- a further field -/
theorem grow {m0 : Str → Option Value} {nl : List Str} (kin : K.In hp) (he : hp.get? e = some (excObj C t0 (some dx) .none)) (ns : hp.Ns1 dx m0) (hw : Within m0 nl) (hz : nl.length ≤ 1000) (ov : excOver K C above = true) (hd : hasDictIn K C = true)
    (nf : findIn K (.ref C) f = some none) (q : ∀ h' tk', Heap.SameBut dx hp h' → h'.Ns1 dx (fun y => if y = f then some v else m0 y) → R (.ok (.ret .none)) ⟨h', g, dr, tk', os⟩) :
    codeAny (model prog w) A (.call (.builtin "object.__setattr__") ⟨[.ref e, .str f tk, v], []⟩) R ⟨hp, g, dr, t, os⟩ := by
  obtain ⟨cd, isCls, has⟩ := any_some hd
  obtain ⟨o, _, _, isDict, _⟩ := ns.count hw
  refine osa_openX F.store_Exception kin (od := some o) ⟨he, rfl, rfl, isDict⟩ ov (no_taker nf) fun _ => wpAny_bind (wpAny_pure (wpAny_bind (wpAny_bind (wpAny_loadPart he (wpAny_bind ((looks_clsIn kin isCls).here ?_))))))
  rw [has]
  exact wpAny_pure (a := some dx) (OEX.store_in_old ns hw hz fun h' tk' n1 sm => q h' tk' sm n1)
end
end Er
namespace L2
open PySem PySem.Spec PyProof.Rows
/-- what the written part says of the error class at C -/
structure ErC (K : PySem.W.Frag) (C : Addr) : Prop where
  ini : PySem.W.excInitIn K C Er.above "Exception.__new__" = true
  over : PySem.W.excOver K C Er.above = true
  dct : PySem.W.hasDictIn K C = true
  store : PySem.W.findIn K (.ref C) "__setattr__" = some (some (.builtin "object.__setattr__"))
  raised : PySem.W.subIn K (.ref C) (.type "BaseException") = some true
  isCls : PySem.W.typeIn K (.ref C) = some (.type "type")
  stays : PySem.W.keepIn K (.ref C) = true
/-- H' tells what H tells, and of the error at e that its dict, new at dx, holds fs -/
structure Dicted (H : Hp) (e C dx : Addr) (fs : List (Str × V)) (H' : Hp) : Prop where
  new : H dx = none
  ne : dx ≠ e
  old : ∀ b o, b ≠ e → H b = some o → H' b = some o
  err : H' e = some (exo e C (some dx))
  own : H' dx = some (exd dx fs)
/-- a class with this field free -/
def FreeF (K : PySem.W.Frag) (C : Addr) (f : Str) : Prop := ErC K C ∧ PySem.W.findIn K (.ref C) f = some none
section
variable {X : Cx} {pins : List (Addr × Obj)} {σ : St} {H : Hp} {s : Shared} {e C dx : Addr} {f : Str} {y : V} {u : Value} {fs : List (Str × V)} {E : Value → Shared → Prop} {A : Around}
theorem er_first {Q : Unit → Shared → Prop} (T : FreeF X.K C f) (I : Inv X pins σ H s) (he : H e = some (exo e C none)) (ry : RelV y u) (h : ∀ dx H' s', Dicted H e C dx [(f, y)] H' → Inv X pins σ H' s' → Q () s') :
    wpAny (model X.prog X.w) A (setAttr (.ref e) f u) Q E s := by
  obtain ⟨t0, ho⟩ := exo_at I.hok he
  obtain ⟨hp, g, dr, tk, os⟩ := s
  have lt : e ≠ hp.objs.size := Nat.ne_of_lt (Heap.lt_size ho)
  have fresh : H hp.objs.size = none := I.hok.fresh (Nat.le_refl _)
  refine PySem.W.set_plain I.kIn (od := none) ⟨ho, rfl, rfl, trivial⟩ T.1.store (Er.lay I.kIn ho T.1.over T.1.dct T.2 fun h' tk' sm n1 => ?_)
  have ns0 : (hp.push (W.dictOf [] 0)).Ns1 hp.objs.size fun _ => none := Heap.Ns1.of_empty ⟨_, _, _, Heap.get?_push_size _ rfl, rfl, fun x hx => absurd hx (by simp), fun _ => rfl⟩
  have J1 := I.laid (t' := tk) (a := hp.objs.size) (o := exd hp.objs.size []) (h' := hp.push (W.dictOf [] 0)) (fun _ _ q => Heap.get?_push_of_some _ q) (Nat.le_refl _) (exd_ok ns0 fun _ => trivial)
  have J2 := J1.write (t' := tk) (x := e) (e := e) (o := exo e C (some hp.objs.size)) (h' := Er.dicted hp e) (by rw [upd_ne lt, he]; trivial) (.inl rfl) (fun b o nb q => (Heap.get?_update_ne _ _ _ _ nb).trans q) ⟨_, Er.dicted_err ho⟩ (exo_ok (Er.dicted_err ho))
  have there : ∃ o, h'.get? hp.objs.size = some o := let ⟨o, _, _, z, _⟩ := n1; ⟨o, z⟩
  have J3 := J2.write (t' := tk') (x := hp.objs.size) (e := hp.objs.size) (o := exd hp.objs.size [(f, y)]) (h' := h') (by rw [upd_ne lt.symm, upd_same]; trivial) (.inl rfl) (fun b o nb q => (sm.2 b nb).trans q) there (exd_ok n1 (relO_put (fs := []) ry fun _ => trivial))
  refine h hp.objs.size _ _ ⟨fresh, lt.symm, fun b o nb q => ?_, ?_, upd_same⟩ J3
  · have nd := ne_of_none q fresh
    rw [upd_ne nd, upd_ne nb, upd_ne nd, q]
  · rw [upd_ne lt, upd_same]
theorem er_more {Q : Unit → Shared → Prop} (T : FreeF X.K C f) (I : Inv X pins σ H s) (he : H e = some (exo e C (some dx))) (hd : H dx = some (exd dx fs)) (hl : fs.length ≤ 900) (ry : RelV y u) (h : ∀ s', Inv X pins σ (upd H dx (exd dx ((f, y) :: fs))) s' → Q () s') :
    wpAny (model X.prog X.w) A (setAttr (.ref e) f u) Q E s := by
  obtain ⟨t0, ho⟩ := exo_at I.hok he
  obtain ⟨m0, ns, rel⟩ := exd_at I.hok hd
  obtain ⟨hp, g, dr, tk, os⟩ := s
  obtain ⟨o, _, _, isDict, _⟩ := ns.count (within_of rel)
  refine PySem.W.set_plain I.kIn (od := some o) ⟨ho, rfl, rfl, isDict⟩ T.1.store (Er.grow I.kIn ho ns (within_of rel) (by rw [List.length_map]; exact Nat.le_trans hl (by decide)) T.1.over T.1.dct T.2 fun h' tk' sm n1 => h _ ?_)
  have there : ∃ o, h'.get? dx = some o := let ⟨o, _, _, z, _⟩ := n1; ⟨o, z⟩
  exact I.write (t' := tk') (x := dx) (e := dx) (by rw [hd]; trivial) (.inl rfl) (fun b o nb q => (sm.2 b nb).trans q) there (exd_ok n1 (relO_put ry rel))
/-- Exception.__init__(e, ..) keeps all that is told -/
theorem er_base {us : List Value} {Q : Value → Shared → Prop} (T : ErC X.K C) (I : Inv X pins σ H s) (he : H e = some (exo e C none)) (hl : us.length ≤ sizeLine) (h : ∀ s', Inv X pins σ H s' → Q .none s') :
    wpAny (model X.prog X.w) A (call (.builtin "Exception.__init__") (.ref e :: us)) Q E s := by
  obtain ⟨nm, N, qn, bs, bm, hdct, sn, sub, ab, col, dd, k0, k1, k2, k3, k5, hC, hT⟩ := PySem.W.excInit_of I.kIn T.ini
  obtain ⟨t0, ho⟩ := exo_at I.hok he
  obtain ⟨hp, g, dr, tk, os⟩ := s
  have same : upd H e (exo e C none) = H := funext fun b => if z : b = e then by rw [z, upd_same, he] else upd_ne z
  exact wpAny_call (PySem.HandSPX.init_base F.excBase_Exception hT hC ho hl fun h' t1 k z => h _ (same ▸ I.write (t' := tk) (x := e) (e := e) (by rw [he]; trivial) (.inl rfl) k ⟨_, z⟩ (exo_ok z)))
end
/-! ### the statements and calls -/
/-- self.f = e, the error's first field -/
def tEr1 (K : PySem.W.Frag) (f : Str) (to te : TE) : TS := fun D σ H => te σ H fun y H1 => to σ H1 fun x H2 => ∃ a C : Addr, (x = .ref a ∧ FreeF K C f) ∧ H2 a = some (exo a C none) ∧ ∀ dx H', Dicted H2 a C dx [(f, y)] H' → D.nx σ H'
/-- self.f = e, a further one -/
def tEr2 (K : PySem.W.Frag) (f : Str) (to te : TE) : TS := fun D σ H => te σ H fun y H1 => to σ H1 fun x H2 => ∃ (a C dx : Addr) (fs : List (Str × V)), (x = .ref a ∧ FreeF K C f) ∧ (H2 a = some (exo a C (some dx)) ∧ H2 dx = some (exd dx fs)) ∧ fs.length ≤ 900 ∧
  D.nx σ (upd H2 dx (exd dx ((f, y) :: fs)))
/-- Exception.__init__(self, ..) -/
def tExI (K : PySem.W.Frag) (ta : TA) : TE := fun σ H Q => ta σ H fun
  | .ref a :: ws, H1 => ws.length ≤ 1000 ∧ (∃ C, ErC K C ∧ H1 a = some (exo a C none)) ∧ Q .non H1
  | _, _ => False
/-- what n.m(..) runs -/
abbrev DotRun (X : Cx) (n m : Str) (es : List Expr) (pl : Sem Bool) (p1 p2 pos : Pos) : Prop := eval (.Call (.Attribute (.Name n p1) m p2) es [] pos) X.env =
  (eval (.Name n p1) X.env >>= fun ov => standAt p2.atName >>= fun _ => holding [ov] (getMethod ov m pl) >>= fun r => callWith pos r.1 r.2 (backTo pos (starEach es X.env)) (backToKw pos (keywordEach [] X.env)))
/-- one argument at least, none of them starred -/
abbrev Plain1 (X : Cx) (e : Expr) (es : List Expr) : Prop := starEach (e :: es) X.env = (false, eval e X.env) :: starEach es X.env
abbrev PlainR (X : Cx) (es : List Expr) (pos : Pos) : Prop := (backTo pos (starEach es X.env)).any (·.1) = false
/-- C.m, C a class of the text, m a plain def found in it -/
structure ClF (K : PySem.W.Frag) (C : Addr) (m : Str) (f : Addr) : Prop where
  look : PySem.W.specialIn K (.ref C) "__getattribute__" = some (some (.builtin "type.__getattribute__"))
  rd : PySem.W.readsIn K C (.type "type") = true
  at_ : PySem.W.findCls K (.ref C) (.type "type") m = some (.val (.ref f))
section
variable {X : Cx} {o e : Expr} {es : List Expr} {to te : TE} {ta : TA} {f n m : Str} {p p' p1 p2 pos : Pos}
/-- an assignment to a field, by what it does with the values -/
theorem ps_field {G : V → V → Ends → St → Hp → Prop} (ho : PE X o to) (he : PE X e te)
    (st : ∀ (pins : List (Addr × Obj)) (s : Shared) (σ : St) (H : Hp) (D : Ends) (x y : V) (ov u : Value), Inv X pins σ H s → RelV x ov → RelV y u → G x y D σ H → wpAny (model X.prog X.w) X.A (setAttr ov f u) (fun _ => SP X pins D .next) X.xe s)
    (hs : swapsWith e (some (.Attribute o f p')) pos.line X.env = pure false := by rfl) : PS X (.Assign [.Attribute o f p'] e pos) (fun D σ H => te σ H fun y H1 => to σ H1 fun x H2 => G x y D σ H2) :=
  ⟨fun pins s σ H D I h => plainObj_wpAny_Assign_Attribute (thn (he.run pins s σ H _ I h) fun u s1 ⟨y, H1, I1, ry, h1⟩ => thn (ho.run pins s1 σ H1 _ I1 h1) fun ov s2 ⟨x, H2, I2, rx, h2⟩ => st pins s2 σ H2 D x y ov u I2 rx ry h2) hs⟩
theorem ps_er1 (ho : PE X o to) (he : PE X e te) (hs : swapsWith e (some (.Attribute o f p')) pos.line X.env = pure false := by rfl) : PS X (.Assign [.Attribute o f p'] e pos) (tEr1 X.K f to te) :=
  ps_field ho he (fun pins s σ H D x y ov u I rx ry ⟨a, C, ⟨ex, T⟩, ha, q⟩ => by
    subst ex
    cases (show ov = Value.ref a from rx)
    exact er_first T I ha ry fun dx H' s' g J => ⟨σ, H', J, q dx H' g⟩) hs
theorem ps_er2 (ho : PE X o to) (he : PE X e te) (hs : swapsWith e (some (.Attribute o f p')) pos.line X.env = pure false := by rfl) : PS X (.Assign [.Attribute o f p'] e pos) (tEr2 X.K f to te) :=
  ps_field ho he (fun pins s σ H D x y ov u I rx ry ⟨a, C, dx, fs, ⟨ex, T⟩, ⟨ha, hd⟩, hl, q⟩ => by
    subst ex
    cases (show ov = Value.ref a from rx)
    exact er_more T I ha hd hl ry fun s' J => ⟨σ, _, J, q⟩) hs
theorem type_Exception : typeOf (.type "Exception") = pure (.type "type") := by kernel_rfl
theorem pe_exinit {pl : Sem Bool} (hg : Gl X "Exception") (hm : X.mg "Exception" = none) (ha : PA X (e :: es) ta) (hc : DotRun X "Exception" "__init__" (e :: es) pl p1 p2 pos := by rfl) (h1 : Plain1 X e es := by rfl) (h2 : PlainR X es pos := by rfl)
    (vV : PySem.W.findCls X.K (.type "Exception") (.type "type") "__init__" = some (.val (.builtin "Exception.__init__"))) : PE X (.Call (.Attribute (.Name "Exception" p1) "__init__" p2) (e :: es) [] pos) (tExI X.K ta) := by
  refine ⟨fun pins s σ H Q I h => PySem.W.methodCall_KW (ld_blt I hg hm PyProof.Rows.Boot.Exception ?_ (by decide) (by decide)) hc⟩
  obtain ⟨mm, fr⟩ := I.fr
  refine PySem.W.method_type fr I.ok.mod.kin type_Exception (by decide +kernel) vV (by decide +kernel) (PyProof.Rows.callWith_method1 (thn (ha.run pos pins _ σ H _ (I.tok _) h) fun us s1 ⟨vs, H1, I1, r, q⟩ => ?_) h1 h2)
  match vs, us, r, q with
  | .ref a :: ws, _, .cons ra rw', ⟨hl, ⟨C, T, hH⟩, q⟩ =>
    cases (show _ = Value.ref a from ra)
    exact er_base T I1 hH (by rw [← Paired.length rw', sizeLine_eq]; exact Nat.le_trans hl (by decide)) fun s' J => ⟨.non, H1, J, rfl, q⟩
theorem pe_clf {CX : CXT} {k : Nat} {fd : FuncData} {ps : List Str} {sp : Sp} {E : XK} {C b : Addr} {pl : Sem Bool} (hg : Gl X n) (hm : X.mg n = some (.ref C)) (c : ClF X.K C m b) (F : FnOk X.prog X.w X.K X.mg X.base CX k b fd ps sp) (hr : Room k X.A) (hk : PySem.W.keepIn X.K (.ref b) = true)
    (hb : Binds X.K fd ps []) (hx : Passes CX X E) (ha : PA X (e :: es) ta) (hdb : (n == ("__debug__" : Str)) = false := by decide) (h1 : Plain1 X e es := by rfl) (h2 : PlainR X es pos := by rfl) (ht : DotRun X n m (e :: es) pl p1 p2 pos := by rfl) :
    PE X (.Call (.Attribute (.Name n p1) m p2) (e :: es) [] pos) (tCall sp [] E ta) :=
  ⟨fun pins s σ H Q I h => PySem.W.methodCall_KW (ld_glob I hg hm (PySem.W.method_cls I.kIn c.look (PySem.W.cls_value I.kIn c.rd c.at_ (handed_of (v := .ref b) (show RelV (.ref b) (.ref b) from rfl))
    (PySem.W.callWith_K (first := []) (h₀ := X.base) I.ok.mod.kin hk (thn (ha.run pos pins _ σ H _ (I.tok _) h) fun us s2 ⟨vs, H2, I2, r, q⟩ => ⟨I2.kIn, run_fn F hr hb .nil hx I2 r q⟩) h1 h2))) hdb) ht⟩
end
/-! ### C(..) of an error class whose __init__ is a def -/
section
variable {X : Cx} {CX : CXT} {C fI : Addr} {k : Nat} {fd : FuncData} {ps : List Str} {sp : Sp} {ds : List Value} {dvs : List V} {pins : List (Addr × Obj)} {σ : St} {H : Hp}
theorem two_on {hp : Heap} (us : List Value) (C : Addr) (b : Addr) (o : Obj) (q : hp.get? b = some o) : ((hp.push (PySem.W.kdv_tup us)).push (PySem.HandSPX.excO C hp.objs.size)).get? b = some o := Heap.get?_push_of_some _ (Heap.get?_push_of_some _ q)
/-- the error as it is handed to its __init__ -/
theorem bare_er {hp : Heap} {g : Array GenState} {dr : Drawn} {tk : Nat} {os : OsState} (I : Inv X pins σ H ⟨hp, g, dr, tk, os⟩) (us : List Value) (C : Addr) :
    Inv X pins σ (upd H (hp.objs.size + 1) (exo (hp.objs.size + 1) C none)) ⟨(hp.push (PySem.W.kdv_tup us)).push (PySem.HandSPX.excO C hp.objs.size), g, dr, tk, os⟩ :=
  I.laid (t' := tk) (two_on us C) (Nat.le_succ _) (exo_ok (t1 := hp.objs.size) (by heap_get))
theorem make_er {s : Shared} {Q : XK} {us : List Value} {vs : List V} (T : ErC X.K C) (iC : PySem.W.findIn X.K (.ref C) "__init__" = some (some (.ref fI))) (tI : PySem.W.typeIn X.K (.ref fI) = some (.type "function"))
    (F1 : FnOk X.prog X.w X.K X.mg X.base CX k fI fd ps sp) (hr : Room (k + 1) X.A) (hb : Binds X.K fd ps ds) (hd : Vals dvs ds) (hx : Passes CX X (fun _ _ _ => False)) (I : Inv X pins σ H s) (r : Vals vs us) (hz : vs.length ≤ 1000)
    (q : ∀ a, H a = none → sp (.ref a :: (vs ++ dvs)) (upd H a (exo a C none)) (fun v H2 => v = .non ∧ ∃ (d : Addr) (fs : List (Str × V)), H2 a = some (exo a C (some d)) ∧ H2 d = some (exd d fs) ∧ H d = none ∧ Q (.ref C) (some d) (upd (del H2 a) d (.xd fs))) (fun _ _ _ => False)) :
    wpAny (model X.prog X.w) X.A (call (.ref C) us) (MkP X pins σ Q) X.xe s := by
  obtain ⟨nm, N, qn, bs, bm, hdct, sn, sub, ab, col, dd, k0, k1, k2, k3, k5, hC, hT⟩ := PySem.W.excInit_of I.kIn T.ini
  obtain ⟨hp, g, dr, tk, os⟩ := s
  have I0 := bare_er I us C
  have run := q (hp.objs.size + 1) (I.hok.fresh (Nat.le_succ _))
  have all : Vals (V.ref (hp.objs.size + 1) :: (vs ++ dvs)) (Value.ref (hp.objs.size + 1) :: (us ++ ds)) := .cons rfl (r.append hd)
  have few : us.length ≤ sizeLine := by rw [← Paired.length r, sizeLine_eq]; exact Nat.le_trans hz (by decide)
  have bound := hb _ (Value.ref (hp.objs.size + 1) :: us) I0.kIn (all.length.symm.trans (F1.len _ _ _ _ run))
  refine wpAny_call (PySem.HandSPX.call_own F.excBase_Exception hT hC (PySem.W.looks_findIn I.kIn iC) (fun self => PySem.W.bind_fn I.kIn self tI) few (codeAny_mono (F1.run _ X.stack _ _ _ _ _ _ _ (hr.make C us []) (I0.env0.make C us []) bound all run) fun res s' got => ?_))
  match res, got with
  | .error er, got => exact hx pins σ _ _ er s' I0 got
  | .ok (.ret u), ⟨v, H2, os2, bare2, un2, hok2, rv, ev, d, fs, ea, ed, hd1, q2⟩ =>
    obtain ⟨h2, g2, d2, t2, os'⟩ := s'
    subst ev
    exact ⟨rv, mk_end (raises_own T.raised T.isCls) I (Nat.le_succ _) (two_on us C) un2 hok2 os2 bare2 ea ed hd1 q2⟩
variable {e : Expr} {es : List Expr} {ta : TA} {p pos : Pos} {x : Str}
theorem pmk_er (T : ErC X.K C) (iC : PySem.W.findIn X.K (.ref C) "__init__" = some (some (.ref fI))) (tI : PySem.W.typeIn X.K (.ref fI) = some (.type "function")) (F1 : FnOk X.prog X.w X.K X.mg X.base CX k fI fd ps sp) (hr : Room (k + 1) X.A) (hb : Binds X.K fd ps ds) (hd : Vals dvs ds)
    (hx : Passes CX X (fun _ _ _ => False)) (hg : Gl X x) (hm : X.mg x = some (.ref C)) (ha : PA X (e :: es) ta) (hdb : (x == ("__debug__" : Str)) = false := by decide) (h1 : Plain1 X e es := by rfl) (h2 : PlainR X es pos := by rfl) :
    PMk X (.Call (.Name x p) (e :: es) [] pos) (tMkO C sp dvs ta) := fun pins s σ H Q I h =>
  wpAny_Call_Name_kw (ld_glob I hg hm (PySem.W.callWith_K (first := []) (h₀ := X.base) I.ok.mod.kin T.stays (thn (ha.run pos pins s σ H _ I h) fun us s1 ⟨vs, H1, I1, r, hz, q⟩ => ⟨I1.kIn, make_er T iC tI F1 hr hb hd hx I1 r hz q⟩) h1 h2) hdb)
theorem pmk_er0 (T : ErC X.K C) (iC : PySem.W.findIn X.K (.ref C) "__init__" = some (some (.ref fI))) (tI : PySem.W.typeIn X.K (.ref fI) = some (.type "function")) (F1 : FnOk X.prog X.w X.K X.mg X.base CX k fI fd ps sp) (hr : Room (k + 1) X.A) (hb : Binds X.K fd ps ds) (hd : Vals dvs ds)
    (hx : Passes CX X (fun _ _ _ => False)) (hg : Gl X x) (hm : X.mg x = some (.ref C)) (hdb : (x == ("__debug__" : Str)) = false := by decide) : PMk X (.Call (.Name x p) [] [] pos) (tMkO C sp dvs tNil) := fun pins s σ H Q I h =>
  wpAny_Call_Name_kw (ld_glob I hg hm (PySem.W.callWith_K0 I.kIn T.stays (make_er T iC tI F1 hr hb hd hx I .nil h.1 h.2)) hdb)
end
/-! ### a field of the caught error, whatever own class it has -/
/-- a reading, to be weakened at its end -/
def tUp (te : TE) : TE := fun σ H Q => ∃ P : VK, te σ H P ∧ ∀ v H', P v H' → Q v H'
theorem PE.up {X : Cx} {e : Expr} {te : TE} (h : PE X e te) : PE X e (tUp te) := ⟨fun pins s σ H Q I ⟨P, q, k⟩ => thn (h.run pins s σ H P I q) fun u s1 ⟨v, H1, I1, r, z⟩ => ⟨v, H1, I1, r, k v H1 z⟩⟩
def tXfA (a : Addr) (cls : Value) (d : Option Addr) (S : Addr → Prop) (f : Str) (te : TE) : TE := fun σ H Q => ∃ (C dd : Addr) (fs : List (Str × V)) (v : V), (cls = .ref C ∧ S C) ∧ (d = some dd ∧ fs.lookup f = some v) ∧ te σ H fun x H1 => x = .ref a ∧ H1 dd = some (.xd fs) ∧ Q v H1
theorem pe_xfA {X : Cx} {a : Addr} {oe : Obj} {cls : Value} {d : Option Addr} {pn : List (Addr × Obj)} {e : Expr} {te : TE} {pos : Pos} {n : Str} {S : Addr → Prop} (T : ∀ C, S C → XfC X.K C ∧ PySem.W.findIn X.K (.ref C) n = some none) (hz : Zc cls d oe) (hf : ∃ vs, oe.data = .fields vs)
    (he : PE (X.suite a ((a, oe) :: pn)) e te) (hb : attributeBase e n X.env (eval e X.env) = eval e X.env := by rfl) : PE (X.suite a ((a, oe) :: pn)) (.Attribute e n pos) (tXfA a cls d S n te) :=
  ⟨fun pins s σ H Q I ⟨C, dd, fs, v, ⟨ec, sC⟩, ⟨ed, l⟩, q⟩ => (pe_xf (T C sC).1 (T C sC).2 hz hf he.up hb).run pins s σ H Q I ⟨_, q, fun _ _ ⟨ex, ea, k⟩ => ⟨ex, ec, dd, fs, v, ed, ea, l, k⟩⟩⟩
end L2

set_option maxHeartbeats 4000000
namespace Nt
open PySem L2 Evl
/-! ### data as the program's values stand for it -/
inductive D where
  | v (x : V)
  | lst (ds : List D)
  | ins (c : PySem.Str) (ns : List PySem.Str) (ds : List D)
abbrev D.i (n : Int) : D := .v (.int n)
mutual
inductive Is (K : PySem.W.Frag) (H : Hp) : V → D → Prop
  | v (x : V) : Is K H x (.v x)
  | lst {a : Addr} {xs : List V} {ds : List D} : H a = some (.lst xs) → IsL K H xs ds → Is K H (.ref a) (.lst ds)
  | ins {a dx : Addr} {c : PySem.Str} {ns : List PySem.Str} {xs : List V} {ds : List D} : H a = some (.ins (He.ga K c) dx (ns.zip xs)) → ns.length = xs.length → IsL K H xs ds → Is K H (.ref a) (.ins c ns ds)
inductive IsL (K : PySem.W.Frag) (H : Hp) : List V → List D → Prop
  | nil : IsL K H [] []
  | cons {x : V} {d : D} {xs : List V} {ds : List D} : Is K H x d → IsL K H xs ds → IsL K H (x :: xs) (d :: ds)
end
section
variable {K : PySem.W.Frag} {H H' : Hp} {x : V} {d : D} {xs ys : List V} {ds es : List D}
theorem Is.mono (e : Ex H H') (h : Is K H x d) : Is K H' x d :=
  Is.rec (motive_1 := fun x d _ => Is K H' x d) (motive_2 := fun xs ds _ => IsL K H' xs ds)
    (fun x => .v x) (fun ha _ ih => .lst (e _ _ ha) ih) (fun ha hl _ ih => .ins (e _ _ ha) hl ih) .nil (fun _ _ i1 i2 => .cons i1 i2) h
theorem IsL.mono (e : Ex H H') (h : IsL K H xs ds) : IsL K H' xs ds :=
  IsL.rec (motive_1 := fun x d _ => Is K H' x d) (motive_2 := fun xs ds _ => IsL K H' xs ds)
    (fun x => .v x) (fun ha _ ih => .lst (e _ _ ha) ih) (fun ha hl _ ih => .ins (e _ _ ha) hl ih) .nil (fun _ _ i1 i2 => .cons i1 i2) h
theorem Is.val {y : V} (h : Is K H x (.v y)) : x = y := by cases h; rfl
theorem Is.lst_inv (h : Is K H x (.lst ds)) : ∃ a xs, x = .ref a ∧ H a = some (.lst xs) ∧ IsL K H xs ds := by
  cases h with
  | lst h1 h2 => exact ⟨_, _, rfl, h1, h2⟩
theorem Is.ins_inv {c : PySem.Str} {ns : List PySem.Str} (h : Is K H x (.ins c ns ds)) : ∃ a dx xs, x = .ref a ∧ H a = some (.ins (He.ga K c) dx (ns.zip xs)) ∧ ns.length = xs.length ∧ IsL K H xs ds := by
  cases h with
  | ins h1 h2 h3 => exact ⟨_, _, _, rfl, h1, h2, h3⟩
theorem IsL.length : ∀ {xs : List V} {ds : List D}, IsL K H xs ds → xs.length = ds.length
  | _, _, .nil => rfl
  | _, _, .cons _ t => congrArg (· + 1) (IsL.length t)
theorem IsL.both {xs : List V} {ds : List D} (h : IsL K H xs ds) (i : Nat) : (xs[i]? = none ∧ ds[i]? = none) ∨ ∃ x d, xs[i]? = some x ∧ ds[i]? = some d ∧ Is K H x d := by
  induction i generalizing xs ds with
  | zero => cases h with
    | nil => exact .inl ⟨rfl, rfl⟩
    | cons a t => exact .inr ⟨_, _, rfl, rfl, a⟩
  | succ i ih => cases h with
    | nil => exact .inl ⟨rfl, rfl⟩
    | cons a t => simpa only [List.getElem?_cons_succ] using ih t
theorem IsL.get {xs : List V} {ds : List D} {i : Nat} {d : D} (h : IsL K H xs ds) (e : ds[i]? = some d) : ∃ x, xs[i]? = some x ∧ Is K H x d := by
  rcases h.both i with ⟨_, n⟩ | ⟨x, d2, e1, e2, r⟩
  · rw [n] at e; cases e
  · rw [e2] at e; cases e; exact ⟨x, e1, r⟩
theorem IsL.get' {xs : List V} {ds : List D} {i : Nat} {x : V} (h : IsL K H xs ds) (e : xs[i]? = some x) : ∃ d, ds[i]? = some d ∧ Is K H x d := by
  rcases h.both i with ⟨n, _⟩ | ⟨x2, d, e1, e2, r⟩
  · rw [n] at e; cases e
  · rw [e1] at e; cases e; exact ⟨d, e2, r⟩
theorem IsL.append : ∀ {xs : List V} {ds : List D}, IsL K H xs ds → IsL K H ys es → IsL K H (xs ++ ys) (ds ++ es)
  | _, _, .nil, h => h
  | _, _, .cons a t, h => .cons a (IsL.append t h)
theorem IsL.one (h : Is K H x d) : IsL K H [x] [d] := .cons h .nil
theorem IsL.take : ∀ {xs : List V} {ds : List D} (n : Nat), IsL K H xs ds → IsL K H (xs.take n) (ds.take n)
  | _, _, 0, _ => .nil
  | _, _, n + 1, .nil => .nil
  | _, _, n + 1, .cons a t => .cons a (IsL.take n t)
theorem IsL.drop : ∀ {xs : List V} {ds : List D} (n : Nat), IsL K H xs ds → IsL K H (xs.drop n) (ds.drop n)
  | _, _, 0, h => h
  | _, _, n + 1, .nil => .nil
  | _, _, n + 1, .cons _ t => IsL.drop n t
theorem IsL.reverse : ∀ {xs : List V} {ds : List D}, IsL K H xs ds → IsL K H xs.reverse ds.reverse
  | _, _, .nil => .nil
  | _, _, .cons a t => by
    rw [List.reverse_cons, List.reverse_cons]
    exact IsL.append (IsL.reverse t) (IsL.one a)
theorem IsL.vals : ∀ (xs : List V), IsL K H xs (xs.map D.v)
  | [] => .nil
  | x :: xs => .cons (.v x) (IsL.vals xs)
theorem IsL.eq_vals : ∀ {xs zs : List V}, IsL K H xs (zs.map D.v) → xs = zs
  | _, [], h => by cases h; rfl
  | _, z :: zs, h => by
    cases h with
    | cons a t => rw [Is.val a, IsL.eq_vals t]
theorem Is.vals_inv {zs : List V} (h : Is K H x (.lst (zs.map D.v))) : ∃ a, x = .ref a ∧ H a = some (.lst zs) := by
  obtain ⟨a, xs, e, h1, h2⟩ := h.lst_inv
  rw [IsL.eq_vals h2] at h1
  exact ⟨a, e, h1⟩
theorem Is.vals {a : Addr} {zs : List V} (h : H a = some (.lst zs)) : Is K H (.ref a) (.lst (zs.map D.v)) := .lst h (IsL.vals zs)
theorem IsL.sqL {a : Addr} (h : H a = some (.lst xs)) : SqL K H a xs := .inl (.inl h)
end

/-! ### what a reading gives -/
def EvD (K : PySem.W.Frag) (te : TE) (σ : L2.St) (H : Hp) (d : D) : Prop := ∀ H1, Ex H H1 → ∀ Q : VK, (∀ x H2, Ex H1 H2 → Is K H2 x d → Q x H2) → te σ H1 Q
/-- a promise's end: a value that stands for d; a new list of plain values; a plain value -/
def RetD (K : PySem.W.Frag) (d : D) (H : Hp) (Q : VK) : Prop := ∀ x H2, Ex H H2 → Is K H2 x d → Q x H2
/-- arguments -/
def EvAD (K : PySem.W.Frag) (ta : TA) (σ : L2.St) (H : Hp) (ds : List D) : Prop := ∀ H1, Ex H H1 → ∀ Q : List V → Hp → Prop, (∀ xs H2, Ex H1 H2 → IsL K H2 xs ds → Q xs H2) → ta σ H1 Q
section
variable {K : PySem.W.Frag} {σ : L2.St} {H H' : Hp} {ta tb te : TE} {t : TT} {x y : V} {d e : D} {ds es : List D}
theorem EvD.mono (e : Ex H H') (h : EvD K te σ H d) : EvD K te σ H' d := fun H1 a Q q => h H1 (e.trans a) Q q
theorem EvD.of (h : Ev te σ H x) : EvD K te σ H (.v x) := fun H1 a Q q => h H1 a Q fun H2 b => q x H2 b (.v x)
theorem EvD.ev (h : EvD K te σ H (.v x)) : Ev te σ H x := fun H1 a Q q => h H1 a Q fun y H2 b i => by
  cases i
  exact q H2 b
theorem EvD.ofL {xs : List V} (h : EvL te σ H xs) : EvD K te σ H (.lst (xs.map D.v)) := fun H1 a Q q => h H1 a Q fun p H2 _ b hp => q _ H2 b (.vals hp)
theorem EvD.eq (h : EvD K te σ H d) (q : d = e) : EvD K te σ H e := q ▸ h
theorem ed_var {i : Nat} (h : σ[i]? = some (some x)) (hx : Is K H x d) : EvD K (tVar i) σ H d := fun H1 a _ q => ⟨x, h, q x H1 (Ex.refl H1) (hx.mono a)⟩
theorem ad_nil : EvAD K tNil σ H [] := fun H1 _ _ q => q [] H1 (Ex.refl H1) .nil
theorem ad_cons {tr : TA} (h : EvD K te σ H d) (hr : EvAD K tr σ H ds) : EvAD K (tCons te tr) σ H (d :: ds) := fun H1 a _ q =>
  h H1 a _ fun x H2 b i => hr H2 (a.trans b) _ fun xs H3 c j => q _ H3 (b.trans c) (.cons (i.mono c) j)
/-- an attribute -/
structure At (K : PySem.W.Frag) (c f : PySem.Str) : Prop where
  cls : Cls K (He.ga K c)
  no : NoAttr K (He.ga K c) f
theorem lookup_zip {f : PySem.Str} : ∀ {ns : List PySem.Str} {xs : List V} {ds : List D}, ns.length = xs.length → IsL K H xs ds → (ns.zip ds).lookup f = some d → ∃ x, (ns.zip xs).lookup f = some x ∧ Is K H x d
  | [], _, _, _, _, e => by cases e
  | n :: ns, [], _, hl, _, e => by cases hl
  | n :: ns, x :: xs, [], _, h, e => by cases h
  | n :: ns, x :: xs, d' :: ds, hl, h, e => by
    cases h with
    | cons a t =>
      have e2 : ((n, d') :: ns.zip ds).lookup f = some d := e
      show ∃ y, ((n, x) :: ns.zip xs).lookup f = some y ∧ _
      rw [List.lookup_cons] at e2 ⊢
      cases h : (f == n) with
      | true => rw [h] at e2; cases e2; exact ⟨x, rfl, a⟩
      | false => rw [h] at e2; exact lookup_zip (Nat.succ.inj hl) t e2
theorem ed_fld {c f : PySem.Str} {ns : List PySem.Str} (h : EvD K ta σ H (.ins c ns ds)) (A : At K c f) (hl : (ns.zip ds).lookup f = some d) : EvD K (tFld K ta f) σ H d := fun H1 a Q q =>
  h H1 a _ fun x H2 b i => by
    obtain ⟨p, dx, xs, rfl, hp, hn, hx⟩ := i.ins_inv
    obtain ⟨y, hy, iy⟩ := lookup_zip hn hx hl
    exact ⟨p, _, dx, _, y, rfl, hp, A.cls, A.no, hy, q y H2 b iy⟩
theorem ev_fld {c f : PySem.Str} {ns : List PySem.Str} (h : EvD K ta σ H (.ins c ns ds)) (A : At K c f) (hl : (ns.zip ds).lookup f = some (.v x)) : Ev (tFld K ta f) σ H x := (ed_fld h A hl).ev
theorem atI_is {xs : List V} {i : Int} (h : IsL K H xs ds) (e : atI ds i = some d) : ∃ x, atI xs i = some x ∧ Is K H x d := by
  unfold atI at e ⊢
  rw [h.length]
  cases q : ixN ds.length i with
  | none => rw [q] at e; cases e
  | some j =>
    rw [q] at e
    exact h.get e
theorem ed_ix {i : Int} (h : EvD K ta σ H (.lst ds)) (hi : Ev tb σ H (.int i)) (e : atI ds i = some d) : EvD K (tOp (rIxL K) ta tb) σ H d := fun H1 a Q q =>
  h H1 a _ fun x H2 b ix => hi H2 (a.trans b) _ fun H3 c => by
    obtain ⟨p, xs, rfl, hp, hx⟩ := ix.lst_inv
    obtain ⟨y, hy, iy⟩ := atI_is hx e
    exact ⟨p, xs, i, y, rfl, rfl, .inl (.inl (c _ _ hp)), hy, q y H3 (b.trans c) (iy.mono c)⟩
theorem ev_ix {i : Int} (h : EvD K ta σ H (.lst ds)) (hi : Ev tb σ H (.int i)) (e : atI ds i = some (.v x)) : Ev (tOp (rIxL K) ta tb) σ H x := (ed_ix h hi e).ev
theorem ev_lenD (h : EvD K ta σ H (.lst ds)) : Ev (tCB (rLenS K) (tCons ta tNil)) σ H (.int (ds.length : Int)) := fun H1 a Q q =>
  h H1 a _ fun x H2 b ix => by
    obtain ⟨p, xs, rfl, hp, hx⟩ := ix.lst_inv
    rw [← hx.length] at q
    exact ⟨p, xs, rfl, .inl (.inl (.inl hp)), q H2 b⟩
/-- xs + ys -/
theorem ed_cat (h : EvD K ta σ H (.lst ds)) (h2 : EvD K tb σ H (.lst es)) (hz : ds.length + es.length ≤ 100000) : EvD K (tOp rCat ta tb) σ H (.lst (ds ++ es)) := fun H1 a Q q =>
  h H1 a _ fun x H2 b ix => h2 H2 (a.trans b) _ fun y H3 c iy => by
    obtain ⟨p, xs, rfl, hp, hx⟩ := (ix.mono c).lst_inv
    obtain ⟨r, ys, rfl, hr, hy⟩ := iy.lst_inv
    refine ⟨p, r, xs, ys, rfl, rfl, hp, hr, sz_of (by rw [hx.length, hy.length]; exact hz), fun n hn => ?_⟩
    exact q _ _ ((b.trans c).trans (Ex.new hn)) (.lst upd_same ((hx.append hy).mono (Ex.new hn)))
theorem ed_lst {tr : TA} (h : EvAD K tr σ H ds) (hz : ds.length ≤ 100000) : EvD K (tLst tr) σ H (.lst ds) := fun H1 a Q q =>
  h H1 a _ fun xs H2 b ix => ⟨sz_of (by rw [ix.length]; exact hz), fun p hp => q _ _ (b.trans (Ex.new hp)) (.lst upd_same (ix.mono (Ex.new hp)))⟩
theorem ed_if {b : Bool} (h : EvT t σ H b) (h1 : b = true → EvD K ta σ H d) (h2 : b = false → EvD K tb σ H d) : EvD K (tIf t ta tb) σ H d := fun H1 e Q q => h H1 e _ fun H2 e2 => by
  cases b with
  | true =>
    show ta σ H2 Q
    exact h1 rfl H2 (e.trans e2) Q fun x H3 e3 => q x H3 (e2.trans e3)
  | false =>
    show tb σ H2 Q
    exact h2 rfl H2 (e.trans e2) Q fun x H3 e3 => q x H3 (e2.trans e3)
/-- a slice -/
theorem cutV_is {xs : List V} (h : IsL K H xs ds) (lo hi : Option Int) : IsL K H (cutV xs lo hi) ((ds.drop (HT.sIx ds.length 0 lo)).take (HT.sIx ds.length ds.length hi - HT.sIx ds.length 0 lo)) := by
  unfold cutV
  rw [h.length]
  exact (h.drop _).take _
theorem ed_sl {tl th : TO} {lo hi : Option Int} (h : EvD K te σ H (.lst ds)) (h1 : EvO tl σ H lo) (h2 : EvO th σ H hi) :
    EvD K (tSl (rSlL K) te tl th) σ H (.lst ((ds.drop (HT.sIx ds.length 0 lo)).take (HT.sIx ds.length ds.length hi - HT.sIx ds.length 0 lo))) := fun H1 e Q q =>
  h H1 e _ fun x H2 e2 ix => h1 H2 (e.trans e2) _ fun H3 e3 => h2 H3 ((e.trans e2).trans e3) _ fun H4 e4 => by
    obtain ⟨p, xs, rfl, hp, hx⟩ := (ix.mono (e3.trans e4)).lst_inv
    exact ⟨p, xs, rfl, .inl (.inl hp), fun n hn => q _ _ (((e2.trans e3).trans e4).trans (Ex.new hn)) (.lst upd_same ((cutV_is hx lo hi).mono (Ex.new hn)))⟩
/-! calls -/
def spD (K : PySem.W.Frag) (R : List D → D → Prop) : Sp := fun vs H Q _ => ∃ ds d, IsL K H vs ds ∧ R ds d ∧ RetD K d H Q
theorem ed_call {R : List D → D → Prop} {E : XK} {tr : TA} (h : EvAD K tr σ H ds) (hr : R ds d) : EvD K (tCall (spD K R) [] E tr) σ H d := fun H1 a Q q =>
  h H1 a _ fun xs H2 b ix => ⟨ds, d, by rw [List.append_nil]; exact ix, hr, fun y H3 c iy => q y H3 (b.trans c) iy⟩
theorem ev_callD {R : List D → D → Prop} {E : XK} {tr : TA} (h : EvAD K tr σ H ds) (hr : R ds (.v x)) : Ev (tCall (spD K R) [] E tr) σ H x := (ed_call h hr).ev
end
end Nt

set_option maxHeartbeats 4000000
namespace Nt
open PySem L2 Evl
/-! ### readings that give what stands already -/
def EvX (K : PySem.W.Frag) (te : TE) (σ : L2.St) (H : Hp) (d : D) : Prop := ∃ x, Is K H x d ∧ Ev te σ H x
section
variable {K : PySem.W.Frag} {σ : L2.St} {H H' : Hp} {ta tb te : TE} {t : TT} {x y : V} {d0 e : D} {ds es : List D}
theorem EvX.d {d : D} (h : EvX K te σ H d) : EvD K te σ H d := fun H1 a Q q => by
  obtain ⟨x, i, h⟩ := h
  exact h H1 a Q fun H2 b => q x H2 b (i.mono (a.trans b))
theorem EvX.mono {d : D} (e : Ex H H') (h : EvX K te σ H d) : EvX K te σ H' d := by
  obtain ⟨x, i, h⟩ := h
  exact ⟨x, i.mono e, h.mono e⟩
theorem xd_var {d : D} {i : Nat} (h : σ[i]? = some (some x)) (hx : Is K H x d) : EvX K (tVar i) σ H d := ⟨x, hx, ev_var h⟩
theorem xd_fld {d : D} {c f : PySem.Str} {ns : List PySem.Str} (h : EvX K ta σ H (.ins c ns ds)) (A : At K c f) (hl : (ns.zip ds).lookup f = some d) : EvX K (tFld K ta f) σ H d := by
  obtain ⟨x, i, h⟩ := h
  obtain ⟨p, dx, xs, rfl, hp, hn, hx⟩ := i.ins_inv
  obtain ⟨y, hy, iy⟩ := lookup_zip hn hx hl
  exact ⟨y, iy, fun H1 a Q q => h H1 a _ fun H2 b => ⟨p, _, dx, _, y, rfl, b _ _ (a _ _ hp), A.cls, A.no, hy, q H2 b⟩⟩
theorem xd_ix {d : D} {i : Int} (h : EvX K ta σ H (.lst ds)) (hi : Ev tb σ H (.int i)) (e : atI ds i = some d) : EvX K (tOp (rIxL K) ta tb) σ H d := by
  obtain ⟨x, ix, h⟩ := h
  obtain ⟨p, xs, rfl, hp, hx⟩ := ix.lst_inv
  obtain ⟨y, hy, iy⟩ := atI_is hx e
  exact ⟨y, iy, fun H1 a Q q => h H1 a _ fun H2 b => hi H2 (a.trans b) _ fun H3 c => ⟨p, xs, i, y, rfl, rfl, .inl (.inl (c _ _ (b _ _ (a _ _ hp)))), hy, q H3 (b.trans c)⟩⟩
theorem EvX.lst (h : EvX K te σ H (.lst ds)) : ∃ a xs, Ev te σ H (.ref a) ∧ H a = some (.lst xs) ∧ IsL K H xs ds := by
  obtain ⟨x, i, h⟩ := h
  obtain ⟨a, xs, rfl, h1, h2⟩ := i.lst_inv
  exact ⟨a, xs, h, h1, h2⟩
theorem atI_nat' {α : Type} {l : List α} {j : Nat} {a : α} (h : l[j]? = some a) : atI l (j : Int) = some a := by
  obtain ⟨h1, h2⟩ := List.getElem?_eq_some_iff.mp h
  unfold atI
  rw [ixN_nat h1]
  exact h
end

/-! ### a comprehension over a walk -/
section
variable {K : PySem.W.Frag} {σ : L2.St} {H H0 H1 : Hp} {te tl : TE} {tt : TT} {ta : TA} {g : TG} {vs : List Nat} {J : It} {n : Nat} {G : Hp → Prop} {Y : Nat → Hp → V → Hp → Prop}
theorem comp_go (w : Walk J n G Y) (f : Nat → Bool) (v : Nat → V) (hn : n ≤ 40000) (hG : ∀ H', Ex H1 H' → G H')
    (hs : ∀ i x Ha Hb, i < n → Ex H1 Ha → Y i Ha x Hb → ∃ s2 Hc, Ex Ha Hc ∧ (∀ Q : L2.St → Hp → Prop, Q s2 Hc → g x (wipe σ vs) Hb Q) ∧ wipe s2 vs = wipe σ vs ∧ EvT tt s2 Hc (f i) ∧ (f i = true → Ev te s2 Hc (v i)))
    {Q : VK} (q : ∀ p H2, H1 p = none → Ex H1 H2 → H2 p = some (.lst (given n f v)) → Q (.ref p) H2) (Dl : Addr) (hD : H1 Dl = none) :
    ∃ W : Nat → Nat → Hp → Prop, (∃ m, W 0 m (upd H1 Dl (.lst []))) ∧ ∀ i m H, W i m H →
      (J.stop i H ∧ Q (.ref Dl) H) ∨ (J.go i H ∧ ∃ Nx : Hp → Prop, (∀ H', Nx H' → ∃ m', m' < m ∧ W (i + 1) m' H') ∧ ∀ x H', J.yld i H x H' → g x (wipe σ vs) H' fun s2 H2 => wipe s2 vs = wipe σ vs ∧ tt s2 H2 fun b H3 =>
        if b = true then te s2 H3 fun y H4 => ∃ acc, H4 Dl = some (.lst acc) ∧ acc.length < sizeLine ∧ Nx (upd H4 Dl (.lst (acc ++ [y]))) else Nx H3) := by
  refine lc_it w (Qd := fun H => Q (.ref Dl) H) (fun i H => Ex H1 H ∧ H Dl = some (.lst (given i f v))) ⟨Ex.new hD, upd_same⟩ (fun i H _ p => hG H p.1) (fun i x Ha Hb hi p y => ?_) fun H p => q Dl H hD p.1 p.2
  obtain ⟨p1, p2⟩ := p
  obtain ⟨s2, Hc, ec, hg, hw, ht, he⟩ := hs i x Ha Hb hi p1 y
  refine hg _ ⟨hw, ht Hc (Ex.refl Hc) _ fun H3 e3 => ?_⟩
  cases hf : f i with
  | true =>
    rw [if_pos rfl]
    refine he hf H3 e3 _ fun H4 e4 => ⟨given i f v, e4 _ _ (e3 _ _ (ec _ _ p2)), sz_lt (by have := given_len i f v; omega), Ex.mut (((p1.trans ec).trans e3).trans e4) hD, ?_⟩
    rw [given_yes hf]
    exact upd_same
  | false =>
    rw [if_neg Bool.false_ne_true]
    refine ⟨(p1.trans ec).trans e3, ?_⟩
    rw [given_no hf]
    exact e3 _ _ (ec _ _ p2)
theorem et_yes : EvT tYes σ H true := fun H1 _ _ q => q H1 (Ex.refl H1)
theorem given_filter {α : Type} (l : List α) (p : α → Bool) (u : α → V) (f : Nat → Bool) (v : Nat → V) (h : ∀ (i : Nat) a, l[i]? = some a → f i = p a ∧ v i = u a) : given l.length f v = (l.filter p).map u := by
  have key : ∀ m, m ≤ l.length → given m f v = ((l.take m).filter p).map u := by
    intro m
    induction m with
    | zero => intro _; rfl
    | succ m ih =>
      intro hm
      have hlt : m < l.length := hm
      have e : l[m]? = some l[m] := List.getElem?_eq_getElem hlt
      obtain ⟨h1, h2⟩ := h m _ e
      rw [List.take_succ_eq_append_getElem hlt, List.filter_append, List.map_append, ← ih (Nat.le_of_lt hlt)]
      cases hp : p l[m] with
      | true => rw [given_yes (h1.trans hp), h2, List.filter_cons, if_pos hp] <;> rfl
      | false =>
        rw [given_no (h1.trans hp), List.filter_cons, if_neg (by rw [hp]; decide)]
        exact (List.append_nil _).symm
  rw [key _ (Nat.le_refl _), List.take_length]
/-- [e for x in xs if t]: xs stands for l, what is kept by p, what it gives by u -/
theorem el_lcF {α : Type} {l : List α} {fD : α → D} {j : Nat} (p : α → Bool) (u : α → V) (h : EvD K tl σ H (.lst (l.map fD))) (hz : l.length ≤ 40000) (hw : ∀ x, wipe ((wipe σ vs).set j (some x)) vs = wipe σ vs)
    (ht : ∀ (i : Nat) a x H1, Ex H H1 → l[i]? = some a → Is K H1 x (fD a) → EvT tt ((wipe σ vs).set j (some x)) H1 (p a)) (he : ∀ (i : Nat) a x H1, Ex H H1 → l[i]? = some a → Is K H1 x (fD a) → p a = true → Ev te ((wipe σ vs).set j (some x)) H1 (u a)) :
    EvL (tLc (iList K tl) (gName j) tt te vs) σ H ((l.filter p).map u) := fun H0 e0 Q q => h H0 e0 _ fun x H1 e1 ix => by
  obtain ⟨a, xs, rfl, ha, hx⟩ := ix.lst_inv
  have hl : xs.length = l.length := by rw [hx.length, List.length_map]
  refine ⟨a, rfl, ⟨xs, .inl (.inl ha)⟩, comp_go (H1 := H1) (walk_list (K := K) (a := a) (xs := xs)) (fun i => (l[i]?.map p).getD false) (fun i => (l[i]?.map u).getD .non) (by omega) (fun H' e => .inl (.inl (e _ _ ha))) (fun i x Ha Hb hi ea y => ?_) fun p' H2 hp e2 h2 => ?_⟩
  · obtain ⟨rfl, hx2⟩ := y
    obtain ⟨d, hd, id⟩ := hx.get' hx2
    rw [List.getElem?_map] at hd
    cases hc : l[i]? with
    | none => rw [hc] at hd; cases hd
    | some c =>
      rw [hc] at hd
      have hd2 : fD c = d := Option.some.inj hd
      subst hd2
      refine ⟨_, Hb, Ex.refl Hb, fun Q q => q, hw x, ?_, fun hf => ?_⟩
      · exact ht i c x Hb ((e0.trans e1).trans ea) hc (id.mono ea)
      · exact he i c x Hb ((e0.trans e1).trans ea) hc (id.mono ea) hf
  · refine q p' H2 (fresh_back e1 hp) (e1.trans e2) ?_
    rw [hl, given_filter l p u _ _ fun i a h => by rw [h]; exact ⟨rfl, rfl⟩] at h2
    exact h2
theorem filter_all {α : Type} (l : List α) : l.filter (fun _ => true) = l := List.filter_eq_self.mpr fun _ _ => rfl
theorem el_lcM {α : Type} {l : List α} {fD : α → D} {j : Nat} {u : α → V} (h : EvD K tl σ H (.lst (l.map fD))) (hz : l.length ≤ 40000) (hw : ∀ x, wipe ((wipe σ vs).set j (some x)) vs = wipe σ vs)
    (he : ∀ (i : Nat) a x H1, Ex H H1 → l[i]? = some a → Is K H1 x (fD a) → Ev te ((wipe σ vs).set j (some x)) H1 (u a)) : EvL (tLc (iList K tl) (gName j) tYes te vs) σ H (l.map u) := by
  have := el_lcF (tt := tYes) (te := te) (vs := vs) (j := j) (fun _ => true) u h hz hw (fun _ _ _ _ _ _ _ => et_yes) fun i a x H1 e1 e2 e3 _ => he i a x H1 e1 e2 e3
  rw [filter_all] at this
  exact this
/-- over range(n) -/
theorem el_lcRF {j : Nat} {n : Nat} (p : Nat → Bool) (u : Nat → V) (h : EvA ta σ H [.int (n : Int)]) (hz : n ≤ 40000) (hw : ∀ x, wipe ((wipe σ vs).set j (some x)) vs = wipe σ vs)
    (ht : ∀ i H1, Ex H H1 → i < n → EvT tt ((wipe σ vs).set j (some (.int (i : Int)))) H1 (p i)) (he : ∀ i H1, Ex H H1 → i < n → p i = true → Ev te ((wipe σ vs).set j (some (.int (i : Int)))) H1 (u i)) :
    EvL (tLc (iRng1 ta) (gName j) tt te vs) σ H (((List.range n).filter p).map u) := by
  have := el_lcR1 (t := tt) (te := te) (vs := vs) (j := j) (n := (n : Int)) p u h (by omega) hw (fun i H1 e hi => ht i H1 e (by omega)) fun i H1 e hi hf => he i H1 e (by omega) hf
  unfold given at this
  exact this
theorem el_lcR {j : Nat} {n : Nat} {u : Nat → V} (h : EvA ta σ H [.int (n : Int)]) (hz : n ≤ 40000) (hw : ∀ x, wipe ((wipe σ vs).set j (some x)) vs = wipe σ vs)
    (he : ∀ i H1, Ex H H1 → i < n → Ev te ((wipe σ vs).set j (some (.int (i : Int)))) H1 (u i)) :
    EvL (tLc (iRng1 ta) (gName j) tYes te vs) σ H ((List.range n).map u) := by
  have := el_lcRF (tt := tYes) (te := te) (vs := vs) (j := j) (fun _ => true) u h hz hw (fun _ _ _ _ => et_yes) fun i H1 e hi _ => he i H1 e hi
  rw [filter_all] at this
  exact this
/-- over zip(xs, ys) -/
theorem el_lcZ {α β : Type} {l : List α} {m : List β} {fD : α → D} {gD : β → D} {j k : Nat} {u : α → β → V} (h : EvAD K ta σ H [.lst (l.map fD), .lst (m.map gD)]) (hz : l.length ≤ 40000) (hw : ∀ x y, wipe (((wipe σ vs).set j (some x)).set k (some y)) vs = wipe σ vs)
    (he : ∀ (i : Nat) a b x y H1, Ex H H1 → l[i]? = some a → m[i]? = some b → Is K H1 x (fD a) → Is K H1 y (gD b) → Ev te (((wipe σ vs).set j (some x)).set k (some y)) H1 (u a b)) :
    EvL (tLc (iZip K ta) (gTup K 2 (gCons (gName j) (gCons (gName k) gNil))) tYes te vs) σ H ((l.zip m).map fun z => u z.1 z.2) := fun H0 e0 Q q => h H0 e0 _ fun zs H1 e1 iz => by
  cases iz with
  | cons i1 i2 =>
    cases i2 with
    | cons i2 i3 =>
      cases i3
      obtain ⟨a, xs, rfl, ha, hx⟩ := i1.lst_inv
      obtain ⟨b, ys, rfl, hb, hy⟩ := i2.lst_inv
      have hl : xs.length = l.length := by rw [hx.length, List.length_map]
      have hm : ys.length = m.length := by rw [hy.length, List.length_map]
      refine ⟨a, b, xs, ys, rfl, .inl (.inl ha), .inl (.inl hb), comp_go (H1 := H1) (walk_zip (K := K) (a := a) (b := b) (xs := xs) (ys := ys) rfl) (fun _ => true) (fun i => ((l.zip m)[i]?.map fun z => u z.1 z.2).getD .non) (by omega)
        (fun H' e => ⟨.inl (.inl (e _ _ ha)), .inl (.inl (e _ _ hb))⟩) (fun i x Ha Hb hi ea y => ?_) fun p' H2 hp e2 h2 => ?_⟩
      · obtain ⟨T, x1, y1, rfl, hT, rfl, h1, h2⟩ := y
        obtain ⟨d, hd, id⟩ := hx.get' h1
        obtain ⟨d2, hd2, id2⟩ := hy.get' h2
        rw [List.getElem?_map] at hd hd2
        cases hc : l[i]? with
        | none => rw [hc] at hd; cases hd
        | some c =>
          cases hc2 : m[i]? with
          | none => rw [hc2] at hd2; cases hd2
          | some c2 =>
            rw [hc] at hd
            rw [hc2] at hd2
            have q1 : fD c = d := Option.some.inj hd
            have q2 : gD c2 = d2 := Option.some.inj hd2
            subst q1 q2
            have en : Ex Ha (upd Ha T (.tup [x1, y1])) := Ex.new hT
            refine ⟨_, _, en, fun Q q => ⟨T, [x1, y1], rfl, .inl (.inl upd_same), rfl, x1, [y1], rfl, y1, [], rfl, rfl, q⟩, hw x1 y1, et_yes, fun _ => ?_⟩
            have ez : (l.zip m)[i]? = some (c, c2) := by rw [List.getElem?_zip_eq_some]; exact ⟨hc, hc2⟩
            show Ev te _ _ (((l.zip m)[i]?.map fun z => u z.1 z.2).getD .non)
            rw [ez]
            exact he i c c2 x1 y1 _ ((e0.trans e1).trans (ea.trans en)) hc hc2 (id.mono (ea.trans en)) (id2.mono (ea.trans en))
      · refine q p' H2 (fresh_back e1 hp) (e1.trans e2) ?_
        have e3 : min xs.length ys.length = (l.zip m).length := by rw [List.length_zip, hl, hm]
        rw [e3, given_filter (l.zip m) (fun _ => true) (fun z => u z.1 z.2) _ _ fun i a h => by rw [h]; exact ⟨rfl, rfl⟩, filter_all] at h2
        exact h2

/-! ### calls on lists of plain values -/
theorem ev_sum {ns : List Int} (h : EvL te σ H (ns.map V.int)) : Ev (tCB (rSum K) (tCons te tNil)) σ H (.int ns.sum) := fun H1 e Q q => h H1 e _ fun p H2 _ e2 hp => ⟨p, ns, rfl, .inl (.inl hp), q H2 e2⟩
theorem ev_any {bs : List Bool} (h : EvL te σ H (bs.map V.bl)) : Ev (tCB (rAny K) (tCons te tNil)) σ H (.bl (bs.any id)) := fun H1 e Q q => h H1 e _ fun p H2 _ e2 hp => ⟨p, bs, rfl, .inl (.inl hp), q H2 e2⟩
theorem ev_all {bs : List Bool} (h : EvL te σ H (bs.map V.bl)) : Ev (tCB (rAll K) (tCons te tNil)) σ H (.bl (bs.all id)) := fun H1 e Q q => h H1 e _ fun p H2 _ e2 hp => ⟨p, bs, rfl, .inl (.inl hp), q H2 e2⟩
end
end Nt

set_option maxHeartbeats 4000000
/-! min(list of whole numbers, default=d), over the library's min of what is walked -/
namespace Nt
open PySem PySem.Spec PyProof.Rows L2
/-- the place of the least -/
theorem least_at {xs : Array (Int × Tok)} {v : Value} (pos : 0 < xs.size) (hv : (intItems xs)[argBest (fun i j => decide (numAt xs i < numAt xs j)) (xs.size - 1)]? = some v) :
    ∃ m t, v = .int m t ∧ m ∈ xs.toList.map (·.1) ∧ ∀ y, y ∈ xs.toList.map (·.1) → m ≤ y := by
  have len : (xs.toList.map (·.1)).length = xs.size := by rw [List.length_map, Array.length_toList]
  have best := argBest_lt (numAt xs) (xs.size - 1)
  obtain ⟨t, e⟩ := intItems_at hv
  refine ⟨_, t, e, ?_, fun y hy => ?_⟩
  · rw [numAt_eq]
    exact PySem.getD_mem (by rw [len]; exact Nat.lt_of_le_of_lt best.1 (by omega))
  · obtain ⟨j, hj, z⟩ := mem_getD hy
    rw [← z, ← numAt_eq]
    exact best.2 j (by rw [len] at hj; omega)
def rMinD (K : PySem.W.Frag) : List V → List V → Hp → VK → Prop := fun vs zs H Q => ∃ (a : Addr) (ns : List Int), vs = [.ref a] ∧ zs = [.non] ∧ SqL K H a (ns.map V.int) ∧ (ns = [] → Q .non H) ∧ ∀ m, m ∈ ns → (∀ y, y ∈ ns → m ≤ y) → Q (.int m) H
theorem cr_minD {X : Cx} (hc : X.calm = true) : CallRK X (.builtin "min") ["default"] (rMinD X.K) := fun pins s σ H vs zs us ws Q I r rz ⟨a, ns, e1, e2, hs, q0, q⟩ => by
  subst e1
  subst e2
  obtain ⟨its, rv, hl, _⟩ := I.list hs
  obtain ⟨xs, ex⟩ := rv.ints.allInts.items
  have hn : xs.toList.map (·.1) = ns := by rw [← nums_intItems, ← ex]; exact rv.ints.numsOf
  subst hn
  have isL : s.heap.IsList a (intItems xs) := ex ▸ hl.isList
  have hz : (intItems xs).size = xs.size := by simp [intItems]
  rw [Vals.ref1 r]
  match ws, rz with
  | [_], .cons rfl .nil =>
    refine call_min_walkD (PySem.W.iter_listW (I.ok.hd hc) isL fun s₂ e W st below hw hk => ⟨_, _, _, _, _, _, _, s.heap, _, rfl, W, st, below, hw, hk, fun none s' m => ?_, fun some => ⟨fun i j vi vj s3 Q3 E3 _ p1 p2 k => CmpOf.ints_lt (numAt xs) (fun _ _ => intItems_at) i j vi vj s3 Q3 E3 p1 p2 k, fun v s' p m => ?_⟩⟩)
    all_goals obtain ⟨h', tk, rfl, kept⟩ := PySem.W.moved_old e rfl m
    · exact ⟨.non, H, I.kept kept, rfl, q0 (List.eq_nil_of_length_eq_zero (by rw [List.length_map, Array.length_toList, ← hz, none]))⟩
    · rw [hz] at p some
      obtain ⟨m, t, ev, hm, all⟩ := least_at some p
      subst ev
      exact ⟨.int m, H, I.kept kept, ⟨t, rfl⟩, q m hm all⟩
end Nt

set_option maxHeartbeats 4000000
/-! list(..) of an iterator of any type that is walked; list(reversed(a list)) -/
namespace Lr
open PySem PySem.Builtin.List
section
variable {prog : Program} {w : World} {A : Around} {E : Value → Shared → Prop} {R : Result → Shared → Prop} {I S : Addr} {fp wr : List Addr} {G : Array GenState → Array GenState → Prop} {n c : Nat} {P : Nat → Value → Prop} {St : Nat → Shared → Prop}
/-- an iterator that reversed made of a list -/
abbrev revT : String := "list_reverseiterator"
/-- its length is not told ahead -/
theorem unhinted {M : Model} {s : Shared} {it l : Addr} {i : Int} {Q : Bool → Shared → Prop} (hit : s.heap.IsRevIter it l i) (q : Q false s) : wpAny M A (listLengthHint (.ref it)) Q E s := by
  unfold listLengthHint
  refine wpAny_bind (wpAny_specialOf hit.typeIs RT.nolen_lri (wpAny_bind (m := specialOf _ _) (wpAny_specialOf hit.typeIs RT.hint_lri ?_)))
  have own : splitId "list_reverseiterator.__length_hint__" = some ("list_reverseiterator", "__length_hint__") := by decide +kernel
  dsimp only
  rw [own]
  exact wpAny_bind (wpAny_isInstance (b := true) hit.typeIs (by rw [isSubtype_type]; kernel_rfl) (wpAny_pure q))
/-- the steps behind a builtin's tree -/
abbrev Goes (prog : Program) (w : World) (A : Around) (R : Result → Shared → Prop) (fin : Fin) (s : Shared) : Prop := match fin with
  | .done f => R (.ok f) s
  | .again k => k.quiet = true ∧ codeAny (model prog w) A k R s
theorem extend_on {s : Shared} {res : Value} (W : WalksS prog w A.in1 I fp wr G n P St) (st : St 0 s) (ty : s.TypeIs (.ref I) revT) (hint : ∀ (Q : Bool → Shared → Prop) (E : Value → Shared → Prop), Q false s → wpAny (model prog w) A.in1 (listLengthHint (.ref I)) Q E s) (apart : S ∉ fp) (mine : I ∈ fp) (few : n ≤ sizeLine)
    (empty : s.heap.get? S = some { cls := .type "list", data := .seq #[] c }) (q : ∀ s' acc k, Moved (S :: wr) G s s' → s'.heap.get? S = some { cls := .type "list", data := .seq acc k } → ItemsOf P acc n → R (.ok (.ret res)) s') :
    wpAny (model prog w) A.in1 (listExtendWith (.ref S) (.ref I) res) (Goes prog w A R) (fun e s' => R (.error e) s') s := by
  have ne : S ≠ I := fun z => apart (z ▸ mine)
  have same : listSameRef (.ref S) (.ref I) = false := by simp [listSameRef, ne]
  unfold listExtendWith
  refine wpAny_bind (wpAny_typeOf ty ?_)
  rw [if_neg (by rw [same]; decide)]
  refine wpAny_bind (W.self 0 _ _ _ st (wpAny_bind (wpAny_holding (hint _ _ ?_))))
  rw [if_neg (by decide)]
  exact wpAny_pure ⟨plainId_quiet F.plain_extend_loop _, codeAny_extend_loopS W few S apart res n 0 s #[] c rfl (Nat.zero_le n) st empty (ItemsOf.nil P) q⟩
/-- the heap with a new empty list, as list.__init__ leaves it ahead of the items -/
abbrev fresh (h : Heap) : Heap := (h.push { cls := .type "list", data := .seq #[] }).update h.objs.size (Obj.mapSeq fun _ => #[])
theorem fresh_at (h : Heap) : (fresh h).get? h.objs.size = some (Obj.mapSeq (fun _ => #[]) { cls := .type "list", data := .seq #[] }) := Heap.get?_update_self _ (Heap.get?_push_size _ rfl) rfl
theorem fresh_on {h : Heap} {b : Addr} {o : Obj} (e : h.get? b = some o) : (fresh h).get? b = some o := (Heap.get?_update_other _ _ (Nat.ne_of_gt (Heap.lt_size e))).trans (Heap.get?_push_of_some _ e)
theorem list_on {s : Shared} {Q : Value → Shared → Prop} (W : WalksS prog w A.in1.in1 I fp wr G n P St) (st : St 0 { s with heap := fresh s.heap }) (ty : ({ s with heap := fresh s.heap } : Shared).TypeIs (.ref I) revT) (hint : ∀ (Q : Bool → Shared → Prop) (E : Value → Shared → Prop), Q false { s with heap := fresh s.heap } → wpAny (model prog w) A.in1.in1 (listLengthHint (.ref I)) Q E { s with heap := fresh s.heap }) (apart : s.heap.objs.size ∉ fp) (mine : I ∈ fp) (few : n ≤ sizeLine)
    (q : ∀ s' acc k, Moved (s.heap.objs.size :: wr) G { s with heap := fresh s.heap } s' → s'.heap.get? s.heap.objs.size = some { cls := .type "list", data := .seq acc k } → ItemsOf P acc n → Q (.ref s.heap.objs.size) s') :
    wpAny (model prog w) A (call (.type "list") [Value.ref I]) Q E s := by
  refine callType_codes (Q₁ := fun v s1 => v = .ref s.heap.objs.size ∧ s1 = { s with heap := s.heap.push { cls := .type "list", data := .seq #[] } }) F.called_list (F.typeCall_list_1 _) F.entry_list_init (code_list_new _ ⟨rfl, rfl⟩) fun v s1 z => ?_
  rw [z.1, z.2]
  have new : (s.heap.push { cls := .type "list", data := .seq #[] }).get? s.heap.objs.size = some { cls := .type "list", data := .seq #[] } := Heap.get?_push_size _ rfl
  refine ⟨⟨_, new, rfl⟩, F.args_list_init_2 _ _, wpAny_bind (m := listItems _) ?_⟩
  unfold listItems
  refine wpAny_bind (wpAny_seqItems new rfl (wpAny_pure (wpAny_bind (m := updateSeq _ _) ?_)))
  exact wpAny_updateSeq new rfl (wpAny_bind (wpAny_letGo (extend_on W st ty hint apart mine few (fresh_at _) fun s' acc k mv at_ it => ⟨rfl, q s' acc k mv at_ it⟩)))
end
/-- list(it), it made by reversed of the list at l -/
theorem list_rev {prog : Program} {w : World} {A : Around} {E : Value → Shared → Prop} {s : Shared} {it l : Addr} {items : Array Value} {Q : Value → Shared → Prop} (calm : A.handled = none) (hit : s.heap.IsRevIter it l ((items.size : Int) - 1)) (hl : s.heap.IsList l items) (ne : l ≠ it) (few : items.size ≤ sizeLine)
    (q : ∀ s' acc k, Moved [s.heap.objs.size, it] (fun a b => b = a) { s with heap := fresh s.heap } s' → s'.heap.get? s.heap.objs.size = some { cls := .type "list", data := .seq acc k } → ItemsOf (fun i v => items[items.size - 1 - i]? = some v) acc items.size → Q (.ref s.heap.objs.size) s') :
    wpAny (model prog w) A (call (.type "list") [Value.ref it]) Q E s := by
  have below : ∀ b, b ∈ [it, l] → b < s.heap.objs.size := by
    obtain ⟨_, e1, _⟩ := id hit
    obtain ⟨_, e2, _⟩ := id hl
    intro b hb
    rcases List.mem_cons.mp hb with rfl | hb
    · exact Heap.lt_size e1
    · rw [List.mem_singleton.mp hb]
      exact Heap.lt_size e2
  have hit2 : (fresh s.heap).IsRevIter it l ((items.size : Int) - 1) := hit.at fun _ => fresh_on
  exact list_on (Walks.listRev (prog := prog) (w := w) (A := A.in1.in1) calm it l ne items).toS ⟨Nat.zero_le _, by rw [Int.natCast_zero, Int.sub_zero]; exact hit2, hl.at fun _ => fresh_on⟩ hit2.typeIs (fun Q E => unhinted (s := { s with heap := fresh s.heap }) hit2)
    (fun z => Nat.lt_irrefl _ (below _ z)) List.mem_cons_self few q
end Lr
namespace RT
open PySem PySem.Spec PyProof.Rows L2
def tListRev (K : PySem.W.Frag) (te : TE) : TE := fun σ H Q => te σ H fun v H1 => ∃ (a : Addr) (xs : List V), v = .ref a ∧ SqL K H1 a xs ∧ ∀ q, H1 q = none → Q (.ref q) (upd H1 q (.lst xs.reverse))
abbrev One (X : Cx) (e : Expr) : Prop := starEach [e] X.env = (false, eval e X.env) :: starEach [] X.env
theorem pe_listRev {X : Cx} {e : Expr} {te : TE} {p p2 pos pos2 : Pos} (hc : X.calm = true) (hg : Gl X "list") (hm : X.mg "list" = none) (hg2 : Gl X "reversed") (hm2 : X.mg "reversed" = none) (he : PE X e te)
    (h1 : One X e := by rfl) (h2 : One X (.Call (.Name "reversed" p2) [e] [] pos2) := by rfl) : PE X (.Call (.Name "list" p) [.Call (.Name "reversed" p2) [e] [] pos2] [] pos) (tListRev X.K te) := by
  refine ⟨fun pins s σ H Q I h => Call_ (ld_blt I hg hm boot_list (PyProof.Rows.callWith_type1 (args_cons ?_ h2) h2 rfl))⟩
  refine Call_ (ld_blt I hg2 hm2 PyProof.Rows.boot_reversed (PyProof.Rows.callWith_type1 (args_cons (thn (he.run pins s σ H _ I h) fun u s1 ⟨v, H1, I1, r1, a, xs, ev, sq, q⟩ => args_nil ?_) h1) h1 rfl))
  subst ev
  cases (show u = Value.ref a from r1)
  obtain ⟨its, rv, pl, few⟩ := I1.list sq
  have hl := pl.isList
  have lt : a < s1.heap.objs.size := let ⟨_, e, _⟩ := hl; Heap.lt_size e
  have size : its.toArray.size ≤ sizeLine := by rw [List.size_toArray, ← rv.length]; exact few
  refine call_reversed_list hl (args_nil (Lr.list_rev (s := { s1 with heap := s1.heap.push (revObj a ((its.toArray.size : Int) - 1)) }) (I1.ok.hd hc) ⟨_, Heap.get?_push_size _ rfl, rfl, rfl⟩ (hl.push _) (Nat.ne_of_lt lt) size fun s' acc k mv at_ it => ?_))
  have wide : (s1.heap.push (revObj a ((its.toArray.size : Int) - 1))).objs.size = s1.heap.objs.size + 1 := Heap.size_push ..
  have far : ∀ {b : Addr} {o : Obj}, s1.heap.get? b = some o → b ∉ [(s1.heap.push (revObj a ((its.toArray.size : Int) - 1))).objs.size, s1.heap.objs.size] := fun {b o} e z => by
    have y := Heap.lt_size e
    rw [wide] at z
    rcases List.mem_cons.mp z with z | z
    · exact absurd (z ▸ y) (Nat.not_lt.mpr (Nat.le_succ _))
    · exact absurd (List.mem_singleton.mp z ▸ y) (Nat.lt_irrefl _)
  have kept : ∀ b o, s1.heap.get? b = some o → s'.heap.get? b = some o := fun b o e => mv.heap b o (far e) (Lr.fresh_on (Heap.get?_push_of_some _ e))
  rw [wide] at at_
  rw [Moved.eq_with mv]
  show EP X pins σ Q (.ref (s1.heap.push (revObj a ((its.toArray.size : Int) - 1))).objs.size) _
  rw [wide]
  refine ⟨.ref _, _, I1.laid (t' := s'.toks) (a := s1.heap.objs.size + 1) (o := .lst xs.reverse) kept (Nat.le_succ _) ⟨by rw [List.length_reverse]; exact few, acc.toList, k, vals_rev rv it, ?_⟩, rfl, q _ (I1.hok.fresh (Nat.le_succ _))⟩
  rw [Array.toArray_toList]
  exact at_
end RT

set_option maxHeartbeats 4000000
namespace Nt
open PySem L2 Evl
section
variable {K : PySem.W.Frag} {σ : L2.St} {H H0 H' : Hp} {ta tb te tl : TE} {x y : V} {d d1 d2 d3 d4 e : D} {ds es : List D} {xs : List V} {D1 : Ends} {tu tz : TS}
theorem IsL.z0 (h : IsL K H xs []) : xs = [] := by cases h; rfl
theorem IsL.c1 (h : IsL K H xs (d :: ds)) : ∃ x ys, xs = x :: ys ∧ Is K H x d ∧ IsL K H ys ds := by cases h with | cons a t => exact ⟨_, _, rfl, a, t⟩
theorem IsL.a1 (h : IsL K H xs [d1]) : ∃ x, xs = [x] ∧ Is K H x d1 := by
  obtain ⟨x, r, rfl, h1, t⟩ := h.c1
  rw [t.z0]
  exact ⟨x, rfl, h1⟩
theorem IsL.a2 (h : IsL K H xs [d1, d2]) : ∃ x y, xs = [x, y] ∧ Is K H x d1 ∧ Is K H y d2 := by
  obtain ⟨x, r, rfl, h1, t⟩ := h.c1
  obtain ⟨y, rfl, h2⟩ := t.a1
  exact ⟨x, y, rfl, h1, h2⟩
theorem IsL.a3 (h : IsL K H xs [d1, d2, d3]) : ∃ x y z, xs = [x, y, z] ∧ Is K H x d1 ∧ Is K H y d2 ∧ Is K H z d3 := by
  obtain ⟨x, r, rfl, h1, t⟩ := h.c1
  obtain ⟨y, z, rfl, h2⟩ := t.a2
  exact ⟨x, y, z, rfl, h1, h2⟩
theorem IsL.a4 (h : IsL K H xs [d1, d2, d3, d4]) : ∃ x y z w, xs = [x, y, z, w] ∧ Is K H x d1 ∧ Is K H y d2 ∧ Is K H z d3 ∧ Is K H w d4 := by
  obtain ⟨x, r, rfl, h1, t⟩ := h.c1
  obtain ⟨y, z, w, rfl, h2⟩ := t.a3
  exact ⟨x, y, z, w, rfl, h1, h2⟩
theorem dlen {f : List D → D → Prop} {n : Nat} (h : ∀ ds d, f ds d → ds.length = n) : ∀ vs H Q E, spD K f vs H Q E → vs.length = n := fun vs H Q E ⟨ds, d, i, r, _⟩ => i.length.trans (h ds d r)
theorem RetD.mono {Q : VK} (e : Ex H H') (k : RetD K d H Q) : RetD K d H' Q := fun x H2 a i => k x H2 (e.trans a) i
/-! statements -/
theorem s_retD (h : EvD K te σ H d) (k : RetD K d H D1.rt) : tRet te D1 σ H := h H (Ex.refl H) _ k
theorem s_retD' (e : Ex H0 H) (h : EvD K te σ H d) (k : RetD K d H0 D1.rt) : tRet te D1 σ H := s_retD h (k.mono e)
theorem s_asgD {i : Nat} (h : EvD K te σ H d) (k : ∀ x H1, Ex H H1 → Is K H1 x d → D1.nx (σ.set i (some x)) H1) : tAsg te (gName i) D1 σ H := h H (Ex.refl H) _ fun x H1 e i => k x H1 e i
theorem q_asgD {i : Nat} (h : EvD K te σ H d) (k : ∀ x H1, Ex H H1 → Is K H1 x d → tz D1 (σ.set i (some x)) H1) : tSeq (tAsg te (gName i)) tz D1 σ H := s_asgD (D1 := { D1 with nx := tz D1 }) h k
/-- over a list of data: what is new in the loop leaves the list as it is -/
theorem s_forD {α : Type} {l : List α} {fD : α → D} {j : Nat} (h : EvD K tl σ H (.lst (l.map fD)))
    (k : ∀ a xs H1, Ex H H1 → H1 a = some (.lst xs) → IsL K H1 xs (l.map fD) → ∃ Pv : Nat → L2.St → Hp → Prop, Pv 0 σ H1 ∧ (∀ i σ' H', Pv i σ' H' → H' a = some (.lst xs) ∧ IsL K H' xs (l.map fD)) ∧
      (∀ i c y σ' H', l[i]? = some c → Is K H' y (fD c) → Pv i σ' H' → tu { D1 with nx := Pv (i + 1), ct := Pv (i + 1), bk := D1.nx } (σ'.set j (some y)) H') ∧ ∀ σ' H', Pv l.length σ' H' → D1.nx σ' H') :
    tFor (iList K tl) (gName j) tu D1 σ H := h H (Ex.refl H) _ fun x H1 e ix => by
  obtain ⟨a, xs, rfl, ha, hx⟩ := ix.lst_inv
  obtain ⟨Pv, p0, pk, ps, pd⟩ := k a xs H1 e ha hx
  have hl : xs.length = l.length := by rw [hx.length, List.length_map]
  refine ⟨a, rfl, ⟨xs, .inl (.inl ha)⟩, for_it (walk_list (K := K) (a := a) (xs := xs)) Pv p0 (fun i σ' H' _ p => .inl (.inl (pk i σ' H' p).1)) (fun i x σ' Ha Hb hi p y => ?_) fun σ' H' p => pd σ' H' (by rw [← hl]; exact p)⟩
  obtain ⟨rfl, hx2⟩ := y
  obtain ⟨d, hd, id⟩ := (pk i σ' Hb p).2.get' hx2
  rw [List.getElem?_map] at hd
  cases hc : l[i]? with
  | none => rw [hc] at hd; cases hd
  | some c =>
    rw [hc] at hd
    cases hd
    exact ps i c x σ' Hb hc id p
/-- .. a list that stands in H0 -/
theorem s_forX {α : Type} {l : List α} {fD : α → D} {j : Nat} (e : Ex H0 H) (h : EvX K tl σ H0 (.lst (l.map fD))) (Pv : Nat → L2.St → Hp → Prop) (h0 : ∀ H1, Ex H H1 → Pv 0 σ H1) (hx : ∀ i σ' H', Pv i σ' H' → Ex H0 H')
    (hs : ∀ i c y σ' H', l[i]? = some c → Is K H0 y (fD c) → Pv i σ' H' → tu { D1 with nx := Pv (i + 1), ct := Pv (i + 1), bk := D1.nx } (σ'.set j (some y)) H') (hd : ∀ σ' H', Pv l.length σ' H' → D1.nx σ' H') :
    tFor (iList K tl) (gName j) tu D1 σ H := by
  obtain ⟨a, xs, h1, ha, hl⟩ := h.lst
  refine h1 H e _ fun H1 e1 => ⟨a, rfl, ⟨xs, .inl (.inl (e1 _ _ (e _ _ ha)))⟩, for_it (walk_list (K := K) (a := a) (xs := xs)) Pv (h0 H1 e1) (fun i σ' H' _ p => .inl (.inl (hx i σ' H' p _ _ ha))) (fun i x σ' Ha Hb hi p y => ?_) fun σ' H' p => hd σ' H' (by have := hl.length; rw [List.length_map] at this; rw [← this]; exact p)⟩
  obtain ⟨rfl, hx2⟩ := y
  obtain ⟨d, hd2, id⟩ := hl.get' hx2
  rw [List.getElem?_map] at hd2
  cases hc : l[i]? with
  | none => rw [hc] at hd2; cases hd2
  | some c =>
    rw [hc] at hd2
    cases hd2
    exact hs i c x σ' Hb hc id p
/-- over reversed(list) -/
theorem s_forV {α : Type} {l : List α} {fD : α → D} {j : Nat} (e : Ex H0 H) (h : EvX K tl σ H0 (.lst (l.map fD))) (Pv : Nat → L2.St → Hp → Prop) (h0 : ∀ H1, Ex H H1 → Pv 0 σ H1) (hx : ∀ i σ' H', Pv i σ' H' → Ex H0 H')
    (hs : ∀ i c y σ' H', i < l.length → l[l.length - 1 - i]? = some c → Is K H0 y (fD c) → Pv i σ' H' → tu { D1 with nx := Pv (i + 1), ct := Pv (i + 1), bk := D1.nx } (σ'.set j (some y)) H') (hd : ∀ σ' H', Pv l.length σ' H' → D1.nx σ' H') :
    tFor (iRev K (tCons tl tNil)) (gName j) tu D1 σ H := by
  obtain ⟨a, xs, h1, ha, hl⟩ := h.lst
  have hn : xs.length = l.length := by have := hl.length; rw [List.length_map] at this; exact this
  refine h1 H e _ fun H1 e1 => ⟨a, xs, rfl, .inl (.inl (e1 _ _ (e _ _ ha))), for_it (walk_rev (K := K) (a := a) (xs := xs)) Pv (h0 H1 e1) (fun i σ' H' _ p => .inl (.inl (hx i σ' H' p _ _ ha))) (fun i x σ' Ha Hb hi p y => ?_) fun σ' H' p => hd σ' H' (by rw [← hn]; exact p)⟩
  obtain ⟨rfl, hx2⟩ := y
  obtain ⟨d, hd2, id⟩ := hl.get' hx2
  rw [List.getElem?_map, hn] at hd2
  cases hc : l[l.length - 1 - i]? with
  | none => rw [hc] at hd2; cases hd2
  | some c =>
    rw [hc] at hd2
    cases hd2
    exact hs i c x σ' Hb (by rw [← hn]; exact hi) hc id p
/-- over enumerate(list) -/
theorem s_forE {α : Type} {l : List α} {fD : α → D} {j m : Nat} (h : EvD K tl σ H (.lst (l.map fD)))
    (k : ∀ a xs H1, Ex H H1 → H1 a = some (.lst xs) → IsL K H1 xs (l.map fD) → ∃ Pv : Nat → L2.St → Hp → Prop, Pv 0 σ H1 ∧ (∀ i σ' H', Pv i σ' H' → H' a = some (.lst xs) ∧ IsL K H' xs (l.map fD)) ∧
      (∀ i c y σ' Ha Hb, l[i]? = some c → Is K Hb y (fD c) → Pv i σ' Ha → (∃ T o, Ha T = none ∧ Hb = upd Ha T o) → tu { D1 with nx := Pv (i + 1), ct := Pv (i + 1), bk := D1.nx } ((σ'.set j (some (.int (i : Nat)))).set m (some y)) Hb) ∧ ∀ σ' H', Pv l.length σ' H' → D1.nx σ' H') :
    tFor (iEnum K (tCons tl tNil)) (gTup K 2 (gCons (gName j) (gCons (gName m) gNil))) tu D1 σ H := h H (Ex.refl H) _ fun x H1 e ix => by
  obtain ⟨a, xs, rfl, ha, hx⟩ := ix.lst_inv
  obtain ⟨Pv, p0, pk, ps, pd⟩ := k a xs H1 e ha hx
  have hl : xs.length = l.length := by rw [hx.length, List.length_map]
  refine ⟨a, xs, rfl, .inl (.inl ha), for_it (walk_enum (K := K) (a := a) (xs := xs)) Pv p0 (fun i σ' H' _ p => .inl (.inl (pk i σ' H' p).1)) (fun i x σ' Ha Hb hi p y => ?_) fun σ' H' p => pd σ' H' (by rw [← hl]; exact p)⟩
  obtain ⟨T, n, y, rfl, hT, rfl, e1, e2⟩ := y
  cases e1
  obtain ⟨d, hd, id⟩ := (pk i σ' Ha p).2.get' e2
  rw [List.getElem?_map] at hd
  cases hc : l[i]? with
  | none => rw [hc] at hd; cases hd
  | some c =>
    rw [hc] at hd
    cases hd
    exact ⟨T, _, rfl, .inl (.inl upd_same), rfl, _, _, rfl, _, _, rfl, rfl, ps i c y σ' Ha _ hc (id.mono (Ex.new hT)) p ⟨T, _, hT, rfl⟩⟩
theorem s_forEX {α : Type} {l : List α} {fD : α → D} {j m : Nat} (e : Ex H0 H) (h : EvX K tl σ H0 (.lst (l.map fD))) (Pv : Nat → L2.St → Hp → Prop) (h0 : ∀ H1, Ex H H1 → Pv 0 σ H1) (hx : ∀ i σ' H', Pv i σ' H' → Ex H0 H')
    (hs : ∀ i c y σ' Ha Hb, l[i]? = some c → Is K H0 y (fD c) → Pv i σ' Ha → (∃ T o, Ha T = none ∧ Hb = upd Ha T o) → tu { D1 with nx := Pv (i + 1), ct := Pv (i + 1), bk := D1.nx } ((σ'.set j (some (.int (i : Nat)))).set m (some y)) Hb) (hd : ∀ σ' H', Pv l.length σ' H' → D1.nx σ' H') :
    tFor (iEnum K (tCons tl tNil)) (gTup K 2 (gCons (gName j) (gCons (gName m) gNil))) tu D1 σ H := by
  obtain ⟨a, xs, h1, ha, hl⟩ := h.lst
  have hn : xs.length = l.length := by have := hl.length; rw [List.length_map] at this; exact this
  refine h1 H e _ fun H1 e1 => ⟨a, xs, rfl, .inl (.inl (e1 _ _ (e _ _ ha))), for_it (walk_enum (K := K) (a := a) (xs := xs)) Pv (h0 H1 e1) (fun i σ' H' _ p => .inl (.inl (hx i σ' H' p _ _ ha))) (fun i x σ' Ha Hb hi p y => ?_) fun σ' H' p => hd σ' H' (by rw [← hn]; exact p)⟩
  obtain ⟨T, n, y, rfl, hT, rfl, e1, e2⟩ := y
  cases e1
  obtain ⟨d, hd2, id⟩ := hl.get' e2
  rw [List.getElem?_map] at hd2
  cases hc : l[i]? with
  | none => rw [hc] at hd2; cases hd2
  | some c =>
    rw [hc] at hd2
    cases hd2
    exact ⟨T, _, rfl, .inl (.inl upd_same), rfl, _, _, rfl, _, _, rfl, rfl, hs i c y σ' Ha _ hc id p ⟨T, _, hT, rfl⟩⟩
/-- over zip(list, list), both in H0 -/
theorem s_forZX {α β : Type} {l : List α} {l2 : List β} {fD : α → D} {gD : β → D} {j m : Nat} (e : Ex H0 H) (h : EvX K ta σ H0 (.lst (l.map fD))) (h2 : EvX K tb σ H0 (.lst (l2.map gD))) (Pv : Nat → L2.St → Hp → Prop) (h0 : ∀ H1, Ex H H1 → Pv 0 σ H1) (hx : ∀ i σ' H', Pv i σ' H' → Ex H0 H')
    (hs : ∀ i c c2 y y2 σ' Ha Hb, l[i]? = some c → l2[i]? = some c2 → Is K H0 y (fD c) → Is K H0 y2 (gD c2) → Pv i σ' Ha → (∃ T o, Ha T = none ∧ Hb = upd Ha T o) → tu { D1 with nx := Pv (i + 1), ct := Pv (i + 1), bk := D1.nx } ((σ'.set j (some y)).set m (some y2)) Hb) (hd : ∀ σ' H', Pv (min l.length l2.length) σ' H' → D1.nx σ' H') :
    tFor (iZip K (tCons ta (tCons tb tNil))) (gTup K 2 (gCons (gName j) (gCons (gName m) gNil))) tu D1 σ H := by
  obtain ⟨a, xs, h1, ha, hl⟩ := h.lst
  obtain ⟨b, ys, h3, hb, hl2⟩ := h2.lst
  have hn : xs.length = l.length := by have := hl.length; rw [List.length_map] at this; exact this
  have hn2 : ys.length = l2.length := by have := hl2.length; rw [List.length_map] at this; exact this
  refine h1 H e _ fun H1 e1 => h3 H1 (e.trans e1) _ fun H2 e2 => ⟨a, b, xs, ys, rfl, .inl (.inl (e2 _ _ (e1 _ _ (e _ _ ha)))), .inl (.inl (e2 _ _ (e1 _ _ (e _ _ hb)))),
    for_it (walk_zip (K := K) (a := a) (b := b) (xs := xs) (ys := ys) rfl) Pv (h0 H2 (e1.trans e2)) (fun i σ' H' _ p => ⟨.inl (.inl (hx i σ' H' p _ _ ha)), .inl (.inl (hx i σ' H' p _ _ hb))⟩) (fun i x σ' Ha Hb hi p y => ?_) fun σ' H' p => hd σ' H' (by rw [← hn, ← hn2]; exact p)⟩
  obtain ⟨T, y, y2, rfl, hT, rfl, q1, q2⟩ := y
  obtain ⟨d, hd2, id⟩ := hl.get' q1
  obtain ⟨d', hd3, id2⟩ := hl2.get' q2
  rw [List.getElem?_map] at hd2 hd3
  cases hc : l[i]? with
  | none => rw [hc] at hd2; cases hd2
  | some c =>
    cases hc2 : l2[i]? with
    | none => rw [hc2] at hd3; cases hd3
    | some c2 =>
      rw [hc] at hd2
      rw [hc2] at hd3
      cases hd2
      cases hd3
      exact ⟨T, _, rfl, .inl (.inl upd_same), rfl, _, _, rfl, _, _, rfl, rfl, hs i c c2 y y2 σ' Ha _ hc hc2 id id2 p ⟨T, _, hT, rfl⟩⟩
/-! expressions -/
theorem EvD.toX (h : Ev te σ H x) (hx : Is K H x d) : EvX K te σ H d := ⟨x, hx, h⟩
theorem ev_lenX (h : EvX K ta σ H (.lst ds)) : Ev (tCB (rLenS K) (tCons ta tNil)) σ H (.int (ds.length : Int)) := ev_lenD h.d
/-- [x] * n -/
theorem el_rep1 {x : V} {n : Nat} (ha : EvL ta σ H [x]) (hb : Ev tb σ H (.int (n : Int))) (hn : n ≤ 100000) : EvL (tOp rRep ta tb) σ H (List.replicate n x) := fun H1 e Q q =>
  ha H1 e _ fun p H2 hp e2 h2 => hb H2 (e.trans e2) _ fun H3 e3 => by
    have z : (List.replicate n [x]).flatten = List.replicate n x := by
      clear q hb hn
      induction n with
      | zero => rfl
      | succ n ih => rw [List.replicate_succ, List.flatten_cons, ih]; rfl
    refine ⟨p, (n : Int), [x], rfl, rfl, e3 _ _ h2, by omega, by omega, ?_, fun r hr => ?_⟩
    · rw [Int.toNat_natCast]
      exact sz_of (by simpa using hn)
    · rw [Int.toNat_natCast, z]
      exact q r _ (fresh_back (e2.trans e3) hr) ((e2.trans e3).trans (Ex.new hr)) upd_same
/-! a def that changes nothing, from data to data -/
def spF (K : PySem.W.Frag) {α : Type} (pre : α → Prop) (args : α → List D) (res : α → D) : Sp := fun vs H Q _ => ∃ a, pre a ∧ IsL K H vs (args a) ∧ RetD K (res a) H Q
theorem spF_len {α : Type} {pre : α → Prop} {args : α → List D} {res : α → D} {n : Nat} (h : ∀ a, (args a).length = n) : ∀ vs H Q E, spF K pre args res vs H Q E → vs.length = n := fun vs H Q E ⟨a, _, i, _⟩ => i.length.trans (h a)
theorem ed_callF {α : Type} {pre : α → Prop} {args : α → List D} {res : α → D} {E : XK} {tr : TA} (a : α) (h : EvAD K tr σ H (args a)) (hp : pre a) : EvD K (tCall (spF K pre args res) [] E tr) σ H (res a) := fun H1 e Q q =>
  h H1 e _ fun xs H2 b ix => ⟨a, hp, by rw [List.append_nil]; exact ix, fun y H3 c iy => q y H3 (b.trans c) iy⟩
theorem ev_callF {α : Type} {pre : α → Prop} {args : α → List D} {res : α → D} {E : XK} {tr : TA} (a : α) {v : V} (h : EvAD K tr σ H (args a)) (hp : pre a) (hv : res a = .v v) : Ev (tCall (spF K pre args res) [] E tr) σ H v := ((ed_callF a h hp).eq hv).ev
theorem ed_vals {xs : List V} (h : EvL te σ H xs) : EvD K te σ H (.lst (xs.map D.v)) := EvD.ofL h
theorem ed_v {v : V} (h : Ev te σ H v) : EvD K te σ H (.v v) := EvD.of h
theorem ad1 {t1 : TE} (h1 : EvD K t1 σ H d1) : EvAD K (tCons t1 tNil) σ H [d1] := ad_cons h1 ad_nil
theorem ad2 {t1 t2 : TE} (h1 : EvD K t1 σ H d1) (h2 : EvD K t2 σ H d2) : EvAD K (tCons t1 (tCons t2 tNil)) σ H [d1, d2] := ad_cons h1 (ad1 h2)
theorem ad3 {t1 t2 t3 : TE} (h1 : EvD K t1 σ H d1) (h2 : EvD K t2 σ H d2) (h3 : EvD K t3 σ H d3) : EvAD K (tCons t1 (tCons t2 (tCons t3 tNil))) σ H [d1, d2, d3] := ad_cons h1 (ad2 h2 h3)
theorem ad4 {t1 t2 t3 t4 : TE} (h1 : EvD K t1 σ H d1) (h2 : EvD K t2 σ H d2) (h3 : EvD K t3 σ H d3) (h4 : EvD K t4 σ H d4) : EvAD K (tCons t1 (tCons t2 (tCons t3 (tCons t4 tNil)))) σ H [d1, d2, d3, d4] := ad_cons h1 (ad3 h2 h3 h4)
/-- min(xs, default=None) -/
def optV : Option Int → V
  | none => .non
  | some n => .int n
theorem ev_minD {ns : List Int} {o : Option Int} (h : EvL te σ H (ns.map V.int)) (h0 : ns = [] → o = none) (h1 : ∀ m, m ∈ ns → (∀ y, y ∈ ns → m ≤ y) → o = some m) : Ev (tCKw (rMinD K) (tCons te tNil) (tCons (tC .non) tNil)) σ H (optV o) := fun H1 e Q q =>
  h H1 e _ fun p H2 hp e2 h2 => ⟨p, ns, rfl, rfl, .inl (.inl h2), fun z => by have := q H2 e2; rw [h0 z] at this; exact this, fun m hm hy => by have := q H2 e2; rw [h1 m hm hy] at this; exact this⟩
theorem rv_isN : RV (fun x y H Q => y = .non ∧ Q (.bl (decide (x = .non))) H) x .non H (.bl (decide (x = .non))) := fun H1 _ _ q => ⟨rfl, q H1 (Ex.refl H1)⟩
theorem rv_notN : RV (fun x y H Q => y = .non ∧ Q (.bl (!decide (x = .non))) H) x .non H (.bl (!decide (x = .non))) := fun H1 _ _ q => ⟨rfl, q H1 (Ex.refl H1)⟩
theorem optV_non (o : Option Int) : decide (optV o = .non) = decide (o = none) := by cases o <;> simp [optV]
/-- x is None, x is not None, where x is a number or none -/
theorem et_isN {o : Option Int} (h : Ev te σ H (optV o)) : EvT (tTest (tOp (fun x y H Q => y = .non ∧ Q (.bl (decide (x = .non))) H) te (tC .non))) σ H (decide (o = none)) := et_is (et_test (ev_op h ev_c rv_isN)) (optV_non o)
theorem et_notN {o : Option Int} (h : Ev te σ H (optV o)) : EvT (tTest (tOp (fun x y H Q => y = .non ∧ Q (.bl (!decide (x = .non))) H) te (tC .non))) σ H (decide (o ≠ none)) := et_is (et_test (ev_op h ev_c rv_notN)) (by rw [optV_non]; cases o <;> simp)
theorem ev_add {i j : Int} (h1 : Ev ta σ H (.int i)) (h2 : Ev tb σ H (.int j)) : Ev (tOp (rI0 fun i j => .int (i + j)) ta tb) σ H (.int (i + j)) := ev_op h1 h2 rv_I0
theorem ev_sub {i j : Int} (h1 : Ev ta σ H (.int i)) (h2 : Ev tb σ H (.int j)) : Ev (tOp (rI0 fun i j => .int (i - j)) ta tb) σ H (.int (i - j)) := ev_op h1 h2 rv_I0
theorem et_le {i j : Int} (h1 : Ev ta σ H (.int i)) (h2 : Ev tb σ H (.int j)) : EvT (tTest (tOp (rI0 fun i j => .bl (decide (i ≤ j))) ta tb)) σ H (decide (i ≤ j)) := et_test (ev_op h1 h2 rv_I0)
theorem et_lt {i j : Int} (h1 : Ev ta σ H (.int i)) (h2 : Ev tb σ H (.int j)) : EvT (tTest (tOp (rI0 fun i j => .bl (decide (i < j))) ta tb)) σ H (decide (i < j)) := et_test (ev_op h1 h2 rv_I0)
theorem et_gt {i j : Int} (h1 : Ev ta σ H (.int i)) (h2 : Ev tb σ H (.int j)) : EvT (tTest (tOp (rI0 fun i j => .bl (decide (j < i))) ta tb)) σ H (decide (j < i)) := et_test (ev_op h1 h2 rv_I0)
theorem et_ge {i j : Int} (h1 : Ev ta σ H (.int i)) (h2 : Ev tb σ H (.int j)) : EvT (tTest (tOp (rI0 fun i j => .bl (decide (j ≤ i))) ta tb)) σ H (decide (j ≤ i)) := et_test (ev_op h1 h2 rv_I0)
theorem et_eqI {i j : Int} (h1 : Ev ta σ H (.int i)) (h2 : Ev tb σ H (.int j)) : EvT (tTest (tOp rEq ta tb)) σ H (decide (i = j)) := et_is (et_test (ev_op h1 h2 (rv_eq rfl))) (by simp)
theorem et_neI {i j : Int} (h1 : Ev ta σ H (.int i)) (h2 : Ev tb σ H (.int j)) : EvT (tTest (tOp rNe ta tb)) σ H (decide (i ≠ j)) := et_is (et_test (ev_op h1 h2 (rv_ne rfl))) (by simp)
theorem lookup_zip_none {f : PySem.Str} : ∀ {ns : List PySem.Str} {xs : List V} {ds : List D}, ns.length = xs.length → IsL K H xs ds → (ns.zip ds).lookup f = none → (ns.zip xs).lookup f = none
  | [], _, _, _, _, _ => rfl
  | n :: ns, [], _, hl, _, _ => by cases hl
  | n :: ns, x :: xs, [], _, h, _ => by cases h
  | n :: ns, x :: xs, d' :: ds, hl, h, e => by
    cases h with
    | cons a t =>
      have e2 : ((n, d') :: ns.zip ds).lookup f = none := e
      show ((n, x) :: ns.zip xs).lookup f = none
      rw [List.lookup_cons] at e2 ⊢
      cases h : (f == n) with
      | true => rw [h] at e2; cases e2
      | false => rw [h] at e2; exact lookup_zip_none (Nat.succ.inj hl) t e2
/-- o.m(..) -/
theorem ed_methF {α : Type} {pre : α → Prop} {args : α → List D} {res : α → D} {E : XK} {tr : TA} {c m : PySem.Str} {ns : List PySem.Str} (a : α) (h : EvD K te σ H (.ins c ns ds)) (hm : (ns.zip ds).lookup m = none) (hr : EvAD K tr σ H es) (hp : pre a) (ha : args a = .ins c ns ds :: es) :
    EvD K (tMeth (He.ga K c) m (spF K pre args res) [] E te tr) σ H (res a) := fun H1 e Q q =>
  h H1 e _ fun x H2 b i => by
    obtain ⟨p, dx, xs, rfl, hp2, hn, hx⟩ := id i.ins_inv
    refine ⟨p, dx, _, rfl, hp2, lookup_zip_none hn hx hm, hr H2 (e.trans b) _ fun ys H3 c3 iy => ⟨a, hp, ?_, fun y H4 c4 i4 => q y H4 ((b.trans c3).trans c4) i4⟩⟩
    rw [List.append_nil, ha]
    exact .cons (i.mono c3) iy
theorem ed_listRev (h : EvD K te σ H (.lst ds)) : EvD K (RT.tListRev K te) σ H (.lst ds.reverse) := fun H1 e Q q => h H1 e _ fun x H2 e2 ix => by
  obtain ⟨a, xs, rfl, ha, hx⟩ := ix.lst_inv
  exact ⟨a, xs, rfl, .inl (.inl ha), fun p hp => q _ _ (e2.trans (Ex.new hp)) (.lst upd_same ((hx.reverse).mono (Ex.new hp)))⟩
theorem s_appD {l : Addr} {xs : List V} (hl : H l = some (.lst xs)) (ha : Ev ta σ H (.ref l)) (h : EvD K te σ H d) (hz : xs.length < 100000) (k : ∀ x H1, Ex H H1 → Is K H1 x d → D1.nx σ (upd H1 l (.lst (xs ++ [x])))) :
    tDrop (tBM K "list" rAppend ta (tCons te tNil)) D1 σ H := ha H (Ex.refl H) _ fun H1 e1 =>
  ⟨.inl ⟨rfl, xs, sq_of (e1 l _ hl)⟩, h H1 e1 _ fun x H2 e2 ix => ⟨l, xs, x, rfl, rfl, e2 l _ (e1 l _ hl), sz_lt hz, k x H2 (e1.trans e2) ix⟩⟩
/-- xs.extend(a new list) -/
theorem s_extL {l : Addr} {xs zs : List V} (hl : H l = some (.lst xs)) (ha : Ev ta σ H (.ref l)) (h : EvL te σ H zs) (hz : xs.length + zs.length ≤ 100000) (k : ∀ H1, Ex H H1 → D1.nx σ (upd H1 l (.lst (xs ++ zs)))) :
    tDrop (tBM K "list" rExtend ta (tCons te tNil)) D1 σ H := ha H (Ex.refl H) _ fun H1 e1 =>
  ⟨.inl ⟨rfl, xs, sq_of (e1 l _ hl)⟩, h H1 e1 _ fun p H2 hp e2 h2 => ⟨l, p, xs, zs, rfl, rfl, e2 l _ (e1 l _ hl), h2, sz_of hz, k H2 (e1.trans e2)⟩⟩
theorem s_extD {l : Addr} {xs : List V} (hl : H l = some (.lst xs)) (ha : Ev ta σ H (.ref l)) (h : EvD K te σ H (.lst ds)) (hz : xs.length + ds.length ≤ 100000) (k : ∀ zs H1, Ex H H1 → IsL K H1 zs ds → D1.nx σ (upd H1 l (.lst (xs ++ zs)))) :
    tDrop (tBM K "list" rExtend ta (tCons te tNil)) D1 σ H := ha H (Ex.refl H) _ fun H1 e1 =>
  ⟨.inl ⟨rfl, xs, sq_of (e1 l _ hl)⟩, h H1 e1 _ fun x H2 e2 ix => by
    obtain ⟨p, zs, rfl, h2, hzs⟩ := ix.lst_inv
    exact ⟨l, p, xs, zs, rfl, rfl, e2 l _ (e1 l _ hl), h2, sz_of (by rw [hzs.length]; exact hz), k zs H2 (e1.trans e2) hzs⟩⟩
theorem atI_last {α : Type} {l : List α} {a : α} : atI (l ++ [a]) (-1) = some a := by
  have e : ixN (l ++ [a]).length (-1) = some l.length := by
    unfold ixN
    have e1 : (l ++ [a]).length = l.length + 1 := by simp
    rw [e1, if_neg (by omega), if_pos (by omega)]
    congr 1
    omega
  unfold atI
  rw [e]
  simp
theorem ev_m1 : Ev (tUn (rU fun i => .int (-i)) (tC (.int 1))) σ H (.int (-1)) := ev_is (ev_un ev_c ru_neg) rfl
/-- a new list of data, told with the heap ahead of it -/
def EvLD (K : PySem.W.Frag) (te : TE) (σ : L2.St) (H : Hp) (ds : List D) : Prop := ∀ H1, Ex H H1 → ∀ Q : VK, (∀ p xs Hm, Ex H1 Hm → Hm p = none → IsL K Hm xs ds → Q (.ref p) (upd Hm p (.lst xs))) → te σ H1 Q
theorem eld_lst {tr : TA} (h : EvAD K tr σ H ds) (hz : ds.length ≤ 100000) : EvLD K (tLst tr) σ H ds := fun H1 e Q q => h H1 e _ fun xs H2 e2 ix => ⟨sz_of (by rw [ix.length]; exact hz), fun p hp => q p xs H2 e2 hp ix⟩
theorem q_asgLD {i : Nat} (h : EvLD K te σ H ds) (k : ∀ p xs Hm, Ex H Hm → Hm p = none → IsL K Hm xs ds → tz D1 (σ.set i (some (.ref p))) (upd Hm p (.lst xs))) : tSeq (tAsg te (gName i)) tz D1 σ H := h H (Ex.refl H) _ k
end
end Nt
namespace Nt
open PySem L2 Evl
/-! instances made -/
/-- __init__ of a class that stores its arguments under these names, in this order -/
def spI (K : PySem.W.Frag) (c : PySem.Str) (ns : List PySem.Str) : Sp := fun vs H Q _ => ∃ (p dx : Addr) (args : List V), vs = .ref p :: args ∧ ns.length = args.length ∧ H p = some (.ins (He.ga K c) dx []) ∧
  ∀ H' : Hp, (∀ b o, b ≠ p → H b = some o → H' b = some o) → H' p = some (.ins (He.ga K c) dx (ns.zip args)) → Q .non H'
section
variable {K : PySem.W.Frag} {σ : L2.St} {H H0 H' : Hp} {ta tb te tl tv : TE} {x y : V} {ds es : List D} {D1 : Ends}
theorem spI_len {c : PySem.Str} {ns : List PySem.Str} {n : Nat} (h : ns.length + 1 = n) : ∀ vs H Q E, spI K c ns vs H Q E → vs.length = n := fun vs H Q E ⟨p, dx, args, e, hl, _⟩ => by rw [e, List.length_cons, ← hl]; exact h
theorem ed_make {c : PySem.Str} {ns : List PySem.Str} {tr : TA} {E : XK} (h : EvAD K tr σ H ds) (hl : ns.length = ds.length) : EvD K (tMake (He.ga K c) (spI K c ns) [] E tr) σ H (.ins c ns ds) := fun H1 e Q q =>
  h H1 e _ fun vs H2 e2 iv p dx hp hd ne => ⟨p, dx, vs, by rw [List.append_nil], by rw [hl, iv.length], upd_same, fun H' kp hp' => by
    have ex : Ex H2 H' := fun b o hb => kp b o (ne_of_none hb hp) (by rw [upd_ne (ne_of_none hb hp), upd_ne (ne_of_none hb hd)]; exact hb)
    exact ⟨rfl, q _ _ (e2.trans ex) (.ins hp' (by rw [hl, iv.length]) (iv.mono ex))⟩⟩
theorem s_fldI {a dx : Addr} {c f : PySem.Str} {fs : List (PySem.Str × V)} (hv : Ev tv σ H y) (ho : Ev ta σ H (.ref a)) (ha : H a = some (.ins (He.ga K c) dx fs)) (A : At K c f) (hz : fs.length < 1000)
    (k : ∀ H1, Ex H H1 → D1.nx σ (upd H1 a (.ins (He.ga K c) dx (putF f y fs)))) : sFld K ta tv f D1 σ H :=
  hv H (Ex.refl H) _ fun H1 e1 => ho H1 e1 _ fun H2 e2 => ⟨a, _, dx, fs, rfl, (e1.trans e2) _ _ ha, A.cls, A.no, hz, k H2 (e1.trans e2)⟩
theorem putF_len {f : PySem.Str} {y : V} : ∀ (fs : List (PySem.Str × V)), (putF f y fs).length ≤ fs.length + 1
  | [] => Nat.le_refl _
  | (g, z) :: r => by
    have ih := putF_len (f := f) (y := y) r
    unfold putF
    split
    · simp
    · simp only [List.length_cons]
      omega
theorem put_lt {f : PySem.Str} {y : V} {fs : List (PySem.Str × V)} (h : fs.length < 900) : (putF f y fs).length < 910 := by have := putF_len (f := f) (y := y) fs; omega
theorem put1 {f : PySem.Str} {y : V} : (putF f y []).length < 1000 := by have := putF_len (f := f) (y := y) []; have e : ([] : List (PySem.Str × V)).length = 0 := rfl; omega
theorem put2 {f g : PySem.Str} {y z : V} : (putF g z (putF f y [])).length < 1000 := by have := putF_len (f := f) (y := y) []; have := putF_len (f := g) (y := z) (putF f y []); have e : ([] : List (PySem.Str × V)).length = 0 := rfl; omega
/-- xs[:i], xs[i:], as lists -/
theorem cut_to {α : Type} {l : List α} {i : Nat} (hi : i ≤ l.length) : (l.drop (HT.sIx l.length 0 none)).take (HT.sIx l.length l.length (some (i : Int)) - HT.sIx l.length 0 none) = l.take i := by
  rw [HT.sIx_nat, HT.sIx_none, List.drop_zero, Nat.sub_zero, Nat.min_eq_left hi]
theorem cut_from {α : Type} {l : List α} {i : Nat} (hi : i ≤ l.length) : (l.drop (HT.sIx l.length 0 (some (i : Int)))).take (HT.sIx l.length l.length none - HT.sIx l.length 0 (some (i : Int))) = l.drop i := by
  rw [HT.sIx_nat, HT.sIx_none, Nat.min_eq_left hi, List.take_of_length_le (by rw [List.length_drop]; omega)]
theorem ed_to {i : Nat} (h : EvD K te σ H (.lst ds)) (hi : Ev tb σ H (.int (i : Int))) (hl : i ≤ ds.length) : EvD K (tSl (rSlL K) te tNoPart (tPart tb)) σ H (.lst (ds.take i)) := (ed_sl h eo_none (eo_some hi)).eq (by rw [cut_to hl])
theorem ed_from {i : Nat} (h : EvD K te σ H (.lst ds)) (hi : Ev tb σ H (.int (i : Int))) (hl : i ≤ ds.length) : EvD K (tSl (rSlL K) te (tPart tb) tNoPart) σ H (.lst (ds.drop i)) := (ed_sl h (eo_some hi) eo_none).eq (by rw [cut_from hl])
/-- xs.index(y) of numbers and none -/
theorem eqV_opt (a b : Option Int) : eqV (optV a) (optV b) = decide (a = b) := by
  cases a <;> cases b <;> simp [optV, eqV] <;> rfl
theorem ev_index {l : List (Option Int)} {o : Option Int} {j : Nat} (h : EvD K te σ H (.lst ((l.map optV).map D.v))) (ho : Ev tb σ H (optV o)) (hj : l[j]? = some o) (hb : ∀ m z, m < j → l[m]? = some z → z ≠ o) : Ev (tBM K "list" (rIndex K) te (tCons tb tNil)) σ H (.int (j : Nat)) := fun H1 e Q q =>
  h H1 e _ fun x H2 e2 ix => by
    obtain ⟨a, rfl, ha⟩ := ix.vals_inv
    refine ⟨.inl ⟨rfl, _, sq_of ha⟩, ho H2 (e.trans e2) _ fun H3 e3 => ⟨a, l.map optV, optV o, j, optV o, rfl, rfl, sq_of (e3 _ _ ha), ?_, ?_, ?_, ?_, ?_, q H3 (e2.trans e3)⟩⟩
    · cases o <;> rfl
    · rw [List.all_map, List.all_eq_true]
      intro z _
      cases z <;> rfl
    · rw [List.getElem?_map, hj]; rfl
    · rw [eqV_opt]; simp
    · intro m z hm hz
      rw [List.getElem?_map] at hz
      cases q2 : l[m]? with
      | none => rw [q2] at hz; cases hz
      | some w =>
        rw [q2] at hz
        cases hz
        rw [eqV_opt]
        exact decide_eq_false (hb m w hm q2)
theorem scal_opt (a b : Option Int) : scal (optV a) (optV b) = true := by cases a <;> cases b <;> rfl
theorem et_eqO {a b : Option Int} (h1 : Ev ta σ H (optV a)) (h2 : Ev tb σ H (optV b)) : EvT (tTest (tOp rEq ta tb)) σ H (decide (a = b)) := et_is (et_test (ev_op h1 h2 (rv_eq (scal_opt a b)))) (by cases a <;> cases b <;> simp [optV])
/-- a <= b < c of whole numbers -/
theorem ev_chainI {tc : TE} {i j k : Int} (h1 : Ev ta σ H (.int i)) (h2 : Ev tb σ H (.int j)) (h3 : Ev tc σ H (.int k)) : Ev (tChain (rI0 fun i j => .bl (decide (i ≤ j))) (rI0 fun i j => .bl (decide (i < j))) ta tb tc) σ H (.bl (decide (i ≤ j) && decide (j < k))) := fun H1 e Q q =>
  h1 H1 e _ fun H2 e2 => h2 H2 (e.trans e2) _ fun H3 e3 => ⟨i, j, rfl, rfl, _, rfl, by
    by_cases hc : i ≤ j
    · rw [if_pos (decide_eq_true hc)]
      refine h3 H3 ((e.trans e2).trans e3) _ fun H4 e4 => ⟨j, k, rfl, rfl, ?_⟩
      have := q H4 ((e2.trans e3).trans e4)
      rw [decide_eq_true hc, Bool.true_and] at this
      exact this
    · rw [if_neg (by rw [decide_eq_false hc]; decide)]
      have := q H3 (e2.trans e3)
      rw [decide_eq_false hc, Bool.false_and] at this
      exact this⟩
def natsD (l : List Nat) : D := .lst (l.map fun n => .v (.int (n : Nat)))
def intsD (l : List Int) : D := .lst (l.map fun n => .v (.int n))
theorem natsD_eq (l : List Nat) : natsD l = .lst ((l.map fun n => V.int (n : Nat)).map D.v) := by unfold natsD; rw [List.map_map]; rfl
theorem intsD_eq (l : List Int) : intsD l = .lst ((l.map V.int).map D.v) := by unfold intsD; rw [List.map_map]; rfl
theorem et_isNv (h : Ev te σ H x) : EvT (tTest (tOp (fun x y H Q => y = .non ∧ Q (.bl (decide (x = .non))) H) te (tC .non))) σ H (decide (x = .non)) := et_test (ev_op h ev_c rv_isN)
theorem et_notNv (h : Ev te σ H x) : EvT (tTest (tOp (fun x y H Q => y = .non ∧ Q (.bl (!decide (x = .non))) H) te (tC .non))) σ H (!decide (x = .non)) := et_test (ev_op h ev_c rv_notN)
theorem Is.v_ref {a : Addr} {v : V} (h : Is K H (.ref a) (.v v)) : v = .ref a := (h.val).symm
theorem Is.lst_ref (h : Is K H x (.lst ds)) : decide (x = .non) = false := by obtain ⟨a, _, rfl, _⟩ := h.lst_inv; rfl
end
end Nt
namespace Nt
open PySem PySem.Spec PyProof.Rows L2
/-! rules within a comprehension: the written part told by its name -/
section
variable {X : Cx} {K : PySem.W.Frag}
theorem pe_fldK (h : X.K = K) {e : Expr} {ta : TE} {f : PySem.Str} {pos : Pos} (he : PE X e ta) (hb : attributeBase e f X.env (eval e X.env) = eval e X.env) : PE X (.Attribute e f pos) (tFld K ta f) := by
  subst h
  exact pe_fld he hb
theorem ix_listK (h : X.K = K) : IxR X (rIxL K) := by
  subst h
  exact ix_list
theorem sl_listK (h : X.K = K) : SlR X (rSlL K) := by
  subst h
  exact sl_list
theorem call_len_seqK (h : X.K = K) : CallR X (.builtin "len") (Evl.rLenS K) := by
  subst h
  exact call_len_seq
end
end Nt
namespace Nt
open PySem L2 Evl
section
variable {K : PySem.W.Frag} {σ : L2.St} {H : Hp} {te : TE}
theorem ev_sum_of {a : Addr} {ns : List Int} (h : Ev te σ H (.ref a)) (ha : H a = some (.lst (ns.map V.int))) : Ev (tCB (rSum K) (tCons te tNil)) σ H (.int ns.sum) := fun H1 e Q q => h H1 e _ fun H2 e2 => ⟨a, ns, rfl, .inl (.inl ((e.trans e2) _ _ ha)), q H2 e2⟩
end
end Nt
namespace Nt
open PySem L2 Evl
section
variable {K : PySem.W.Frag} {σ : L2.St} {H : Hp} {ta tb te : TE}
theorem ev_div {i j : Int} (h1 : Ev ta σ H (.int i)) (h2 : Ev tb σ H (.int j)) (hj : 0 < j) (hs : j < 1073741824) : Ev (tOp (rI CDiv fun i j => .int (i / j)) ta tb) σ H (.int (i / j)) := ev_op h1 h2 (rv_I ⟨hj, hs⟩)
theorem ev_mod {i j : Int} (h1 : Ev ta σ H (.int i)) (h2 : Ev tb σ H (.int j)) (hj : 0 < j) : Ev (tOp (rI (fun _ j => 0 < j) fun i j => .int (i % j)) ta tb) σ H (.int (i % j)) := ev_op h1 h2 (rv_I hj)
theorem ev_neg {i : Int} (h : Ev ta σ H (.int i)) : Ev (tUn (rU fun i => .int (-i)) ta) σ H (.int (-i)) := ev_un h ru_neg
theorem ev_max2' {i j : Int} (ha : Ev ta σ H (.int i)) (hb : Ev tb σ H (.int j)) : Ev (tCB (fun xs H Q => ∃ i j, xs = [.int i, .int j] ∧ Q (.int (if j > i then j else i)) H) (tCons ta (tCons tb tNil))) σ H (.int (if j > i then j else i)) := fun H1 e Q q =>
  ha H1 e _ fun H2 x2 => hb H2 (Ex.trans e x2) _ fun H3 x3 => ⟨i, j, rfl, q H3 (Ex.trans x2 x3)⟩
theorem ev_min2' {i j : Int} (ha : Ev ta σ H (.int i)) (hb : Ev tb σ H (.int j)) : Ev (tCB (fun xs H Q => ∃ i j, xs = [.int i, .int j] ∧ Q (.int (if j < i then j else i)) H) (tCons ta (tCons tb tNil))) σ H (.int (if j < i then j else i)) := fun H1 e Q q =>
  ha H1 e _ fun H2 x2 => hb H2 (Ex.trans e x2) _ fun H3 x3 => ⟨i, j, rfl, q H3 (Ex.trans x2 x3)⟩
theorem ev_abs {i : Int} (ha : Ev ta σ H (.int i)) : Ev (tCB (fun xs H Q => ∃ i, xs = [.int i] ∧ Q (.int (if i < 0 then -i else i)) H) (tCons ta tNil)) σ H (.int (if i < 0 then -i else i)) := fun H1 e Q q => ha H1 e _ fun H2 e2 => ⟨i, rfl, q H2 e2⟩
end
/-! comprehensions whose items are new lists of plain values -/
def NoRef (l : List V) : Prop := l ≠ [] ∧ ∀ v ∈ l, ∀ a, v ≠ .ref a
/-- rows of plain values -/
inductive PlAt (H : Hp) : List V → List (List V) → Prop
  | nil : PlAt H [] []
  | cons {q : Addr} {l : List V} {xs : List V} {ls : List (List V)} : H q = some (.lst l) → PlAt H xs ls → PlAt H (.ref q :: xs) (l :: ls)
theorem PlAt.to {K : PySem.W.Frag} {H : Hp} : ∀ {xs : List V} {ls : List (List V)}, PlAt H xs ls → IsL K H xs (ls.map fun l => .lst (l.map D.v))
  | _, _, .nil => .nil
  | _, _, .cons h t => .cons (Is.vals h) (PlAt.to t)
theorem PlAt.ex {H H' : Hp} (e : Ex H H') : ∀ {xs : List V} {ls : List (List V)}, PlAt H xs ls → PlAt H' xs ls
  | _, _, .nil => .nil
  | _, _, .cons h t => .cons (e _ _ h) (PlAt.ex e t)
theorem PlAt.snoc {H : Hp} {q : Addr} {l : List V} (h : H q = some (.lst l)) : ∀ {xs : List V} {ls : List (List V)}, PlAt H xs ls → PlAt H (xs ++ [.ref q]) (ls ++ [l])
  | _, _, .nil => PlAt.cons h PlAt.nil
  | _, _, .cons a t => PlAt.cons a (PlAt.snoc h t)
/-- a list of such rows is none of them -/
theorem PlAt.upd {H : Hp} {p : Addr} {o : HO} {ys : List V} (hp : H p = some (.lst ys)) (hy : ys = [] ∨ ∃ a r, ys = .ref a :: r) {xs : List V} {ls : List (List V)} (hn : ∀ l ∈ ls, NoRef l) (h : PlAt H xs ls) : PlAt (L2.upd H p o) xs ls := by
  induction h with
  | nil => exact .nil
  | @cons q l xs ls h t ih =>
    refine PlAt.cons ?_ (ih fun l hl => hn l (List.mem_cons_of_mem _ hl))
    have ne : q ≠ p := fun z => by
      rw [z, hp] at h
      have e := Option.some.inj h
      injection e with e
      obtain ⟨n1, n2⟩ := hn l List.mem_cons_self
      rcases hy with hy | ⟨a, r, hy⟩
      · exact n1 (e.symm.trans hy)
      · exact n2 (.ref a) (by rw [← e, hy]; exact List.mem_cons_self) a rfl
    rw [upd_ne ne]
    exact h
theorem PlAt.len {H : Hp} : ∀ {xs : List V} {ls : List (List V)}, PlAt H xs ls → xs.length = ls.length
  | _, _, .nil => rfl
  | _, _, .cons _ t => congrArg (· + 1) (PlAt.len t)
theorem PlAt.hd {H : Hp} {xs : List V} {ls : List (List V)} (h : PlAt H xs ls) : xs = [] ∨ ∃ a r, xs = .ref a :: r := by
  cases h with
  | nil => exact .inl rfl
  | cons _ _ => exact .inr ⟨_, _, rfl⟩
section
variable {K : PySem.W.Frag} {σ : L2.St} {H : Hp} {te tl : TE} {ta : TA}
/-- one walk that makes such rows -/
theorem comp_rows {J : It} {n : Nat} {G : Hp → Prop} {Y : Nat → Hp → V → Hp → Prop} {g : TG} {vs : List Nat} {H1 : Hp} (w : Walk J n G Y) (u : Nat → List V) (hn : n ≤ 40000) (hu : ∀ i, i < n → NoRef (u i)) (hG : ∀ H', Ex H1 H' → G H')
    (hs : ∀ i x Ha Hb, i < n → Ex H1 Ha → Y i Ha x Hb → ∃ s2 Hc, Ex Ha Hc ∧ (∀ Q : L2.St → Hp → Prop, Q s2 Hc → g x (wipe σ vs) Hb Q) ∧ wipe s2 vs = wipe σ vs ∧ EvD K te s2 Hc (.lst ((u i).map D.v)))
    {Q : VK} (q : ∀ p xs Hm, H1 p = none → Ex H1 Hm → Hm p = some (.lst xs) → PlAt Hm xs ((List.range n).map u) → Q (.ref p) Hm) (Dl : Addr) (hD : H1 Dl = none) :
    ∃ W : Nat → Nat → Hp → Prop, (∃ m, W 0 m (upd H1 Dl (.lst []))) ∧ ∀ i m H, W i m H →
      (J.stop i H ∧ Q (.ref Dl) H) ∨ (J.go i H ∧ ∃ Nx : Hp → Prop, (∀ H', Nx H' → ∃ m', m' < m ∧ W (i + 1) m' H') ∧ ∀ x H', J.yld i H x H' → g x (wipe σ vs) H' fun s2 H2 => wipe s2 vs = wipe σ vs ∧ tYes s2 H2 fun b H3 =>
        if b = true then te s2 H3 fun y H4 => ∃ acc, H4 Dl = some (.lst acc) ∧ acc.length < sizeLine ∧ Nx (upd H4 Dl (.lst (acc ++ [y]))) else Nx H3) := by
  refine lc_it w (Qd := fun H => Q (.ref Dl) H) (fun i H => Ex H1 H ∧ i ≤ n ∧ ∃ xs, H Dl = some (.lst xs) ∧ PlAt H xs ((List.range i).map u)) ⟨Ex.new hD, Nat.zero_le _, [], upd_same, .nil⟩ (fun i H _ p => hG H p.1) (fun i x Ha Hb hi p y => ?_) fun H p => ?_
  · obtain ⟨p1, _, xs, p3, p4⟩ := p
    obtain ⟨s2, Hc, ec, hg, hw, he⟩ := hs i x Ha Hb hi p1 y
    refine hg _ ⟨hw, ?_⟩
    unfold tYes
    dsimp only
    rw [if_pos rfl]
    refine he Hc (Ex.refl Hc) _ fun z H4 e4 iz => ?_
    obtain ⟨q2, rfl, hq⟩ := iz.vals_inv
    have e := ec.trans e4
    refine ⟨xs, e _ _ p3, sz_lt (by rw [p4.len, List.length_map, List.length_range]; omega), Ex.mut (p1.trans e) hD, hi, xs ++ [.ref q2], upd_same, ?_⟩
    have r2 := (p4.ex e).snoc hq
    rw [List.range_succ, List.map_append]
    refine PlAt.upd (e _ _ p3) p4.hd (fun l hl => ?_) r2
    rcases List.mem_append.mp hl with h | h
    · obtain ⟨j, hj, rfl⟩ := List.mem_map.mp h
      exact hu j (by have := List.mem_range.mp hj; omega)
    · rw [List.mem_singleton.mp h]
      exact hu i hi
  · obtain ⟨p1, _, xs, p3, p4⟩ := p
    exact q Dl xs H hD p1 p3 p4
theorem ed_lcRowsR {j n : Nat} {vs : List Nat} (u : Nat → List V) (h : EvA ta σ H [.int (n : Int)]) (hz : n ≤ 40000) (hu : ∀ i, i < n → NoRef (u i)) (hw : ∀ x, wipe ((wipe σ vs).set j (some x)) vs = wipe σ vs)
    (he : ∀ i H1, Ex H H1 → i < n → EvD K te ((wipe σ vs).set j (some (.int (i : Int)))) H1 (.lst ((u i).map D.v))) : EvD K (tLc (iRng1 ta) (gName j) tYes te vs) σ H (.lst ((List.range n).map fun i => .lst ((u i).map D.v))) := fun H0 e0 Q q => h H0 e0 _ fun H1 e1 => by
  refine ⟨(n : Int), rfl, by omega, by omega, ?_⟩
  rw [Int.toNat_natCast]
  refine comp_rows (K := K) (H1 := H1) (walk_range (lo := 0) (n := n)) u hz hu (fun _ _ => trivial) (fun i x Ha Hb hi ea y => ?_) fun p xs Hm hp e2 h2 r2 => ?_
  · obtain ⟨rfl, rfl⟩ := y
    have z : (0 : Int) + (i : Int) = (i : Int) := Int.zero_add _
    show ∃ s2 Hc, Ex Hb Hc ∧ (∀ Q : L2.St → Hp → Prop, Q s2 Hc → gName j (.int ((0 : Int) + (i : Int))) (wipe σ vs) Hb Q) ∧ wipe s2 vs = wipe σ vs ∧ EvD K te s2 Hc (.lst ((u i).map D.v))
    rw [z]
    exact ⟨_, Hb, Ex.refl Hb, fun Q q => q, hw _, he i Hb ((e0.trans e1).trans ea) hi⟩
  · refine q _ _ (e1.trans e2) (.lst h2 ?_)
    have := r2.to (K := K)
    rw [List.map_map] at this
    exact this
theorem ed_lcRowsZ {α β : Type} {l : List α} {m : List β} {fD : α → D} {gD : β → D} {j k : Nat} {vs : List Nat} (u : α → β → List V) (h : EvAD K ta σ H [.lst (l.map fD), .lst (m.map gD)]) (hz : l.length ≤ 40000) (hu : ∀ (i : Nat) a b, l[i]? = some a → m[i]? = some b → NoRef (u a b))
    (hw : ∀ x y, wipe (((wipe σ vs).set j (some x)).set k (some y)) vs = wipe σ vs)
    (he : ∀ (i : Nat) a b x y H1, Ex H H1 → l[i]? = some a → m[i]? = some b → Is K H1 x (fD a) → Is K H1 y (gD b) → EvD K te (((wipe σ vs).set j (some x)).set k (some y)) H1 (.lst ((u a b).map D.v))) :
    EvD K (tLc (iZip K ta) (gTup K 2 (gCons (gName j) (gCons (gName k) gNil))) tYes te vs) σ H (.lst ((l.zip m).map fun z => .lst ((u z.1 z.2).map D.v))) := fun H0 e0 Q q => h H0 e0 _ fun zs H1 e1 iz => by
  obtain ⟨x0, y0, rfl, i1, i2⟩ := iz.a2
  obtain ⟨a, xs, rfl, ha, hx⟩ := i1.lst_inv
  obtain ⟨b, ys, rfl, hb, hy⟩ := i2.lst_inv
  have hl : xs.length = l.length := by rw [hx.length, List.length_map]
  have hm : ys.length = m.length := by rw [hy.length, List.length_map]
  have zl : (l.zip m).length = min xs.length ys.length := by rw [List.length_zip, hl, hm]
  refine ⟨a, b, xs, ys, rfl, .inl (.inl ha), .inl (.inl hb), comp_rows (K := K) (H1 := H1) (walk_zip (K := K) (a := a) (b := b) (xs := xs) (ys := ys) zl) (fun i => ((l.zip m)[i]?.map fun z => u z.1 z.2).getD []) (by rw [zl]; omega) (fun i hi => ?_)
    (fun H' e => ⟨.inl (.inl (e _ _ ha)), .inl (.inl (e _ _ hb))⟩) (fun i x Ha Hb hi ea y => ?_) fun p xs2 Hm hp e2 h2 r2 => ?_⟩
  · have e : (l.zip m)[i]? = some (l.zip m)[i] := List.getElem?_eq_getElem hi
    obtain ⟨h1, h2⟩ := List.getElem?_zip_eq_some.mp e
    rw [e]
    exact hu i _ _ h1 h2
  · obtain ⟨T, x1, y1, rfl, hT, rfl, h1, h2⟩ := y
    obtain ⟨d, hd, id⟩ := hx.get' h1
    obtain ⟨d2, hd2, id2⟩ := hy.get' h2
    rw [List.getElem?_map] at hd hd2
    cases hc : l[i]? with
    | none => rw [hc] at hd; cases hd
    | some c =>
      cases hc2 : m[i]? with
      | none => rw [hc2] at hd2; cases hd2
      | some c2 =>
        rw [hc] at hd
        rw [hc2] at hd2
        cases hd
        cases hd2
        have en : Ex Ha (upd Ha T (.tup [x1, y1])) := Ex.new hT
        have ez : (l.zip m)[i]? = some (c, c2) := by rw [List.getElem?_zip_eq_some]; exact ⟨hc, hc2⟩
        refine ⟨_, _, en, fun Q q => ⟨T, [x1, y1], rfl, .inl (.inl upd_same), rfl, x1, [y1], rfl, y1, [], rfl, rfl, q⟩, hw x1 y1, ?_⟩
        rw [ez]
        exact he i c c2 x1 y1 _ ((e0.trans e1).trans (ea.trans en)) hc hc2 (id.mono (ea.trans en)) (id2.mono (ea.trans en))
  · refine q _ _ (e1.trans e2) (.lst h2 ?_)
    have r3 := r2.to (K := K)
    have e3 : (List.range (l.zip m).length).map (fun i => ((l.zip m)[i]?.map fun z => u z.1 z.2).getD []) = (l.zip m).map fun z => u z.1 z.2 := by
      refine List.ext_getElem? fun i => ?_
      rw [List.getElem?_map, List.getElem?_map]
      by_cases hi : i < (l.zip m).length
      · rw [List.getElem?_range hi, List.getElem?_eq_getElem hi]
        simp [List.getElem?_eq_getElem hi]
      · rw [List.getElem?_eq_none (by rw [List.length_range]; omega), List.getElem?_eq_none (by omega)]
        rfl
    rw [e3, List.map_map] at r3
    exact r3
end
end Nt

set_option maxHeartbeats 4000000
namespace Nt
open Vbenaj

/-! ### rows of the table over whole numbers -/
abbrev Row := List (Option Int)
def toI (r : List (Option Nat)) : Row := r.map fun o => o.map Int.ofNat

def lesserI (a b : Option Int) : Option Int := match a, b with
  | none, y => y
  | x, none => x
  | some x, some y => some (min x y)
def leastOf (l : Row) : Option Int := l.foldl lesserI none
def costWith (x : Field) (behind : Row) (h : Nat) (c : Code) : Option Int :=
  if c.holes ≤ h then (behind.getD (h - c.holes) none).map fun n => ((x.asked * c.cost : Nat) : Int) + n else none
def costsWith (x : Field) (behind : Row) (h : Nat) : Row := x.codes.map (costWith x behind h)
def rowAhead (x : Field) (behind : Row) : Row := (List.range behind.length).map fun h => leastOf (costsWith x behind h)
def lastRow (holes : Nat) (n : Int) : Row := List.replicate (holes + 1) (some n)

theorem lesserI_assoc (a b c : Option Int) : lesserI (lesserI a b) c = lesserI a (lesserI b c) := by
  cases a <;> cases b <;> cases c <;> simp [lesserI, Int.min_assoc]
theorem lesserI_none (a : Option Int) : lesserI a none = a := by cases a <;> rfl
theorem none_lesserI (a : Option Int) : lesserI none a = a := by cases a <;> rfl
theorem foldl_lesserI (l : Row) (m : Option Int) : l.foldl lesserI m = lesserI m (l.foldl lesserI none) := by
  induction l generalizing m with
  | nil => simp [lesserI_none]
  | cons a l ih =>
    rw [List.foldl_cons, List.foldl_cons, ih (lesserI m a), ih (lesserI none a), lesserI_assoc, none_lesserI]
theorem leastOf_nil : leastOf [] = none := rfl
theorem leastOf_cons (a : Option Int) (l : Row) : leastOf (a :: l) = lesserI a (leastOf l) := by
  show l.foldl lesserI (lesserI none a) = _
  rw [none_lesserI, foldl_lesserI]
  rfl
theorem leastOf_append (l m : Row) : leastOf (l ++ m) = lesserI (leastOf l) (leastOf m) := by
  induction l with
  | nil => rw [List.nil_append, leastOf_nil, none_lesserI]
  | cons a l ih => rw [List.cons_append, leastOf_cons, leastOf_cons, ih, lesserI_assoc]
/-- the least of what there is -/
theorem leastOf_spec : ∀ (l : Row), (leastOf l = none ∧ ∀ n, some n ∉ l) ∨ ∃ m, leastOf l = some m ∧ some m ∈ l ∧ ∀ n, some n ∈ l → m ≤ n
  | [] => .inl ⟨rfl, fun n h => by cases h⟩
  | a :: l => by
    rw [leastOf_cons]
    rcases leastOf_spec l with ⟨e, h⟩ | ⟨m, e, hm, h⟩
    · rw [e, lesserI_none]
      cases a with
      | none => exact .inl ⟨rfl, fun n hn => by
          rcases List.mem_cons.mp hn with h1 | h1
          · cases h1
          · exact h n h1⟩
      | some z => exact .inr ⟨z, rfl, List.mem_cons_self, fun n hn => by
          rcases List.mem_cons.mp hn with h1 | h1
          · cases h1; exact Int.le_refl _
          · exact absurd h1 (h n)⟩
    · rw [e]
      cases a with
      | none => exact .inr ⟨m, rfl, List.mem_cons_of_mem _ hm, fun n hn => by
          rcases List.mem_cons.mp hn with h1 | h1
          · cases h1
          · exact h n h1⟩
      | some z => exact .inr ⟨min z m, rfl, by
          rcases Int.le_total z m with h1 | h1
          · rw [Int.min_eq_left h1]; exact List.mem_cons_self
          · rw [Int.min_eq_right h1]; exact List.mem_cons_of_mem _ hm, fun n hn => by
          rcases List.mem_cons.mp hn with h1 | h1
          · cases h1; exact Int.min_le_left _ _
          · exact Int.le_trans (Int.min_le_right _ _) (h n h1)⟩

/-! ### the specification's rows -/
theorem lesser_toI (a b : Option Nat) : (lesser a b).map Int.ofNat = lesserI (a.map Int.ofNat) (b.map Int.ofNat) := by
  cases a with
  | none => cases b <;> rfl
  | some x => cases b with
    | none => rfl
    | some y =>
      show some (Int.ofNat (min x y)) = some (min (Int.ofNat x) (Int.ofNat y))
      congr 1
      show ((min x y : Nat) : Int) = min (x : Int) (y : Int)
      omega
theorem toI_getD (r : List (Option Nat)) (h : Nat) : (toI r).getD h none = (r.getD h none).map Int.ofNat := by
  unfold toI
  rw [List.getD_eq_getElem?_getD, List.getD_eq_getElem?_getD, List.getElem?_map]
  cases r[h]? <;> rfl
theorem toI_length (r : List (Option Nat)) : (toI r).length = r.length := List.length_map ..
theorem costWith_toI (x : Field) (r : List (Option Nat)) (h : Nat) (c : Code) :
    costWith x (toI r) h c = (if c.holes ≤ h then (r.getD (h - c.holes) none).map fun n => paid x c + n else none).map Int.ofNat := by
  unfold costWith
  by_cases hc : c.holes ≤ h
  · rw [if_pos hc, if_pos hc, toI_getD]
    cases r.getD (h - c.holes) none with
    | none => rfl
    | some n =>
      show some (((x.asked * c.cost : Nat) : Int) + Int.ofNat n) = some (Int.ofNat (paid x c + n))
      rfl
  · rw [if_neg hc, if_neg hc]; rfl
theorem leastOf_rowFor (x : Field) (r : List (Option Nat)) (h : Nat) :
    leastOf (costsWith x (toI r) h) = (x.codes.foldl (fun m c => if c.holes ≤ h then lesser m ((r.getD (h - c.holes) none).map fun n => paid x c + n) else m) none).map Int.ofNat := by
  unfold leastOf costsWith
  rw [List.foldl_map]
  have key : ∀ (l : List Code) (m : Option Nat), l.foldl (fun m c => lesserI m (costWith x (toI r) h c)) (m.map Int.ofNat) =
      (l.foldl (fun m c => if c.holes ≤ h then lesser m ((r.getD (h - c.holes) none).map fun n => paid x c + n) else m) m).map Int.ofNat := by
    intro l
    induction l with
    | nil => intro m; rfl
    | cons c l ih =>
      intro m
      rw [List.foldl_cons, List.foldl_cons, ← ih]
      congr 1
      rw [costWith_toI]
      by_cases hc : c.holes ≤ h
      · rw [if_pos hc, if_pos hc, lesser_toI]
      · rw [if_neg hc, if_neg hc]; exact lesserI_none _
  exact key x.codes none
theorem rowAhead_toI (x : Field) (r : List (Option Nat)) : rowAhead x (toI r) = toI (rowFor x r) := by
  unfold rowAhead rowFor
  rw [toI_length]
  unfold toI
  rw [List.map_map]
  apply List.map_congr_left
  intro h _
  exact leastOf_rowFor x r h
theorem lastRow_toI (holes : Nat) : lastRow holes 0 = toI (List.replicate (holes + 1) (some 0)) := by
  unfold lastRow toI
  rw [List.map_replicate]
  rfl

/-- the table, a list of rows -/
def tabI (holes : Nat) (l : List Field) : List Row := (tableOf holes l).map toI
theorem tabI_nil (holes : Nat) : tabI holes [] = [lastRow holes 0] := by
  unfold tabI
  show [toI (List.replicate (holes + 1) (some 0))] = _
  rw [lastRow_toI]
theorem tableOf_ne (holes : Nat) (l : List Field) : ∃ t u, tableOf holes l = t :: u := by
  cases l with
  | nil => exact ⟨_, _, rfl⟩
  | cons x l => exact ⟨_, _, rfl⟩
theorem tabI_cons (holes : Nat) (x : Field) (l : List Field) : tabI holes (x :: l) = rowAhead x ((tabI holes l).headD []) :: tabI holes l := by
  obtain ⟨t, u, e⟩ := tableOf_ne holes l
  unfold tabI
  show ((rowFor x ((tableOf holes l).headD [])) :: tableOf holes l).map toI = _
  rw [e]
  show toI (rowFor x t) :: (t :: u).map toI = rowAhead x (toI t) :: (t :: u).map toI
  rw [rowAhead_toI]
theorem tabI_length (holes : Nat) (l : List Field) : (tabI holes l).length = l.length + 1 := by
  induction l with
  | nil => rw [tabI_nil]; rfl
  | cons x l ih => rw [tabI_cons, List.length_cons, ih]; rfl
theorem rowAhead_length (x : Field) (r : Row) : (rowAhead x r).length = r.length := by
  unfold rowAhead; rw [List.length_map, List.length_range]
theorem tabI_head_length (holes : Nat) (l : List Field) : ((tabI holes l).headD []).length = holes + 1 := by
  induction l with
  | nil => rw [tabI_nil]; exact List.length_replicate ..
  | cons x l ih => rw [tabI_cons]; show (rowAhead x _).length = _; rw [rowAhead_length, ih]
theorem tabI_rows (holes : Nat) (l : List Field) : ∀ r ∈ tabI holes l, r.length = holes + 1 := by
  induction l with
  | nil => rw [tabI_nil]; intro r hr; rw [List.mem_singleton.mp hr]; exact List.length_replicate ..
  | cons x l ih =>
    rw [tabI_cons]
    intro r hr
    rcases List.mem_cons.mp hr with h | h
    · rw [h, rowAhead_length, tabI_head_length]
    · exact ih r h
theorem tabI_drop (holes : Nat) : ∀ (l : List Field) (i : Nat), i ≤ l.length → (tabI holes l).drop i = tabI holes (l.drop i)
  | l, 0, _ => by rw [List.drop_zero, List.drop_zero]
  | x :: l, i + 1, h => by
    rw [tabI_cons]
    show (tabI holes l).drop i = tabI holes (l.drop i)
    exact tabI_drop holes l i (Nat.le_of_succ_le_succ h)
  | [], i + 1, h => by cases h
theorem tabI_get (holes : Nat) (l : List Field) (i : Nat) (h : i ≤ l.length) : (tabI holes l)[i]? = some ((tabI holes (l.drop i)).headD []) := by
  have e := tabI_drop holes l i h
  have e1 : (tabI holes l)[i]? = ((tabI holes l).drop i)[0]? := by rw [List.getElem?_drop]; rfl
  rw [e1, e]
  obtain ⟨t, u, e2⟩ := tableOf_ne holes (l.drop i)
  unfold tabI
  rw [e2]
  rfl
/-- the row for the fields l -/
def rowI (holes : Nat) (l : List Field) : Row := (tabI holes l).headD []
theorem rowI_nil (holes : Nat) : rowI holes [] = lastRow holes 0 := by unfold rowI; rw [tabI_nil]; rfl
theorem rowI_cons (holes : Nat) (x : Field) (l : List Field) : rowI holes (x :: l) = rowAhead x (rowI holes l) := by unfold rowI; rw [tabI_cons]; rfl
theorem rowI_length (holes : Nat) (l : List Field) : (rowI holes l).length = holes + 1 := tabI_head_length holes l
theorem at_I (f : File) (h : Nat) : (at_ (table f) 0 h).map Int.ofNat = (rowI f.holes f.fields).getD h none := by
  obtain ⟨t, u, e⟩ := tableOf_ne f.holes f.fields
  unfold at_ table rowI tabI
  rw [e]
  show ((t :: u).getD 0 [] |>.getD h none).map Int.ofNat = (toI t).getD h none
  rw [toI_getD]
  rfl
theorem least_I (f : File) : (least f).map Int.ofNat = (rowI f.holes f.fields).getD f.holes none := at_I f f.holes
theorem rowAhead_get (x : Field) (r : Row) (h : Nat) (hh : h < r.length) : (rowAhead x r)[h]? = some (leastOf (costsWith x r h)) := by
  unfold rowAhead
  rw [List.getElem?_map, List.getElem?_range hh]
  rfl
theorem rowAhead_getD (x : Field) (r : Row) (h : Nat) (hh : h < r.length) : (rowAhead x r).getD h none = leastOf (costsWith x r h) := by
  rw [List.getD_eq_getElem?_getD, rowAhead_get x r h hh]; rfl
end Nt

set_option maxHeartbeats 4000000
namespace Nt
open Vbenaj

theorem foldl_add (l : List Nat) (a : Nat) : l.foldl (fun a b => a + b) a = a + l.sum := by
  induction l generalizing a with
  | nil => simp
  | cons x l ih => rw [List.foldl_cons, ih, List.sum_cons]; omega
theorem foldl_add0 (l : List Nat) : l.foldl (fun a b => a + b) 0 = l.sum := by rw [foldl_add]; omega

/-! ### the least plan -/
def chosen (x : Field) (behind : Row) (h : Nat) : Nat := (costsWith x behind h).findIdx fun o => decide (o = leastOf (costsWith x behind h))
def planI (H : Nat) : List Field → Nat → List Nat
  | [], _ => []
  | x :: l, h => chosen x (rowI H l) h :: planI H l (h - (codeAt x (chosen x (rowI H l) h)).holes)
theorem chosen_lt {x : Field} {behind : Row} {h : Nat} {v : Int} (e : leastOf (costsWith x behind h) = some v) : chosen x behind h < x.codes.length := by
  have hl : (costsWith x behind h).length = x.codes.length := List.length_map ..
  rw [← hl]
  unfold chosen
  refine List.findIdx_lt_length_of_exists ?_
  rcases leastOf_spec (costsWith x behind h) with ⟨e2, _⟩ | ⟨m, e2, hm, _⟩
  · rw [e] at e2; cases e2
  · exact ⟨some m, hm, by rw [e2]; simp⟩
theorem chosen_at {x : Field} {behind : Row} {h : Nat} {v : Int} (e : leastOf (costsWith x behind h) = some v) : (costsWith x behind h)[chosen x behind h]? = some (some v) := by
  have hl : (costsWith x behind h).length = x.codes.length := List.length_map ..
  have hc := chosen_lt e
  have hlt : chosen x behind h < (costsWith x behind h).length := by rw [hl]; exact hc
  have := List.findIdx_getElem (w := hlt)
  rw [List.getElem?_eq_getElem hlt]
  have z := of_decide_eq_true this
  exact congrArg some (z.trans e)
theorem chosen_before {x : Field} {behind : Row} {h : Nat} {v : Int} (e : leastOf (costsWith x behind h) = some v) {m : Nat} (hm : m < chosen x behind h) {z : Option Int} (hz : (costsWith x behind h)[m]? = some z) : z ≠ some v := by
  have := List.not_of_lt_findIdx hm
  obtain ⟨h1, h2⟩ := List.getElem?_eq_some_iff.mp hz
  intro q
  rw [h2, q, e] at this
  simp at this
theorem codeAt_get {x : Field} {c : Nat} (h : c < x.codes.length) : x.codes[c]? = some (codeAt x c) := by
  unfold codeAt
  rw [List.getD_eq_getElem?_getD, List.getElem?_eq_getElem h]; rfl
theorem chosen_fits {x : Field} {behind : Row} {h : Nat} {v : Int} (e : leastOf (costsWith x behind h) = some v) :
    (codeAt x (chosen x behind h)).holes ≤ h ∧ ∃ n, behind.getD (h - (codeAt x (chosen x behind h)).holes) none = some n ∧ v = ((x.asked * (codeAt x (chosen x behind h)).cost : Nat) : Int) + n := by
  have h1 := chosen_at e
  have h2 := codeAt_get (chosen_lt e)
  unfold costsWith at h1
  rw [List.getElem?_map, h2] at h1
  have h3 := Option.some.inj h1
  unfold costWith at h3
  by_cases hc : (codeAt x (chosen x behind h)).holes ≤ h
  · rw [if_pos hc] at h3
    refine ⟨hc, ?_⟩
    cases q : behind.getD (h - (codeAt x (chosen x behind h)).holes) none with
    | none => rw [q] at h3; cases h3
    | some n => rw [q] at h3; exact ⟨n, rfl, (Option.some.inj h3).symm⟩
  · rw [if_neg hc] at h3; cases h3
theorem rowI_cons_getD (H : Nat) (x : Field) (l : List Field) (h : Nat) (hh : h ≤ H) : (rowI H (x :: l)).getD h none = leastOf (costsWith x (rowI H l) h) := by
  rw [rowI_cons, rowAhead_getD]
  rw [rowI_length]; omega
def costL (l : List Field) (r : List Nat) : Nat := ((l.zip r).map fun z => paid z.1 (codeAt z.1 z.2)).sum
def usedL (l : List Field) (r : List Nat) : Nat := ((l.zip r).map fun z => (codeAt z.1 z.2).holes).sum
theorem costOf_L (f : File) (r : List Nat) : costOf f r = costL f.fields r := foldl_add0 _
theorem used_L (f : File) (r : List Nat) : used f r = usedL f.fields r := foldl_add0 _
theorem planI_length (H : Nat) : ∀ (l : List Field) (h : Nat), (planI H l h).length = l.length
  | [], _ => rfl
  | x :: l, h => by show (planI H l _).length + 1 = _; rw [planI_length H l]; rfl
theorem planI_cost (H : Nat) : ∀ (l : List Field) (h : Nat) (v : Int), h ≤ H → (rowI H l).getD h none = some v → (costL l (planI H l h) : Int) = v ∧ usedL l (planI H l h) ≤ h ∧ ∀ z ∈ l.zip (planI H l h), z.2 < z.1.codes.length
  | [], h, v, hh, e => by
    rw [rowI_nil] at e
    unfold lastRow at e
    rw [List.getD_eq_getElem?_getD, List.getElem?_replicate, if_pos (by omega)] at e
    have e2 : (0 : Int) = v := Option.some.inj e
    exact ⟨e2, Nat.zero_le _, fun z hz => by cases hz⟩
  | x :: l, h, v, hh, e => by
    rw [rowI_cons_getD H x l h hh] at e
    obtain ⟨hc, n, hn, hv⟩ := chosen_fits e
    obtain ⟨i1, i2, i3⟩ := planI_cost H l (h - (codeAt x (chosen x (rowI H l) h)).holes) n (by omega) hn
    refine ⟨?_, ?_, ?_⟩
    · show ((paid x (codeAt x (chosen x (rowI H l) h)) + costL l (planI H l (h - (codeAt x (chosen x (rowI H l) h)).holes)) : Nat) : Int) = v
      unfold paid
      omega
    · show (codeAt x (chosen x (rowI H l) h)).holes + usedL l (planI H l (h - (codeAt x (chosen x (rowI H l) h)).holes)) ≤ h
      omega
    · intro z hz
      rcases List.mem_cons.mp hz with q | q
      · rw [q]; exact chosen_lt e
      · exact i3 z q
theorem findIdx?_of_findIdx {α : Type} {p : α → Bool} {l : List α} (h : l.findIdx p < l.length) : l.findIdx? p = some (l.findIdx p) := by
  rw [List.findIdx?_eq_some_iff_findIdx_eq]
  exact ⟨h, rfl⟩
theorem findIdx_map' {α β : Type} (f : α → β) (p : β → Bool) : ∀ (l : List α), (l.map f).findIdx p = l.findIdx fun a => p (f a)
  | [] => rfl
  | a :: l => by
    rw [List.map_cons, List.findIdx_cons, List.findIdx_cons, findIdx_map' f p l]
theorem findIdx_congr' {α : Type} {p q : α → Bool} : ∀ {l : List α}, (∀ a ∈ l, p a = q a) → l.findIdx p = l.findIdx q
  | [], _ => rfl
  | a :: l, h => by
    rw [List.findIdx_cons, List.findIdx_cons, h a List.mem_cons_self, findIdx_congr' fun b hb => h b (List.mem_cons_of_mem _ hb)]
theorem firstCode_chosen {x : Field} {next : List (Option Nat)} {h v : Nat} (e : leastOf (costsWith x (toI next) h) = some (v : Int)) : firstCode x next h v = some (chosen x (toI next) h) := by
  have hc := chosen_lt e
  have e2 : chosen x (toI next) h = x.codes.findIdx fun c => decide (c.holes ≤ h) && ((next.getD (h - c.holes) none).map fun n => paid x c + n) == some v := by
    unfold chosen
    rw [e]
    unfold costsWith
    rw [findIdx_map']
    refine findIdx_congr' fun c _ => ?_
    rw [costWith_toI]
    by_cases hh : c.holes ≤ h
    · rw [if_pos hh, decide_eq_true hh, Bool.true_and]
      cases q : ((next.getD (h - c.holes) none).map fun n => paid x c + n) with
      | none => simp
      | some z =>
        simp only [Option.map_some, Option.some.injEq, beq_iff_eq]
        by_cases k : z = v
        · subst k; simp
        · have k2 : ¬ Int.ofNat z = (v : Int) := fun q => k (by have : (z : Int) = v := q; omega)
          rw [decide_eq_false k2]
          exact (beq_eq_false_iff_ne.mpr (fun q => k (Option.some.inj q))).symm
    · rw [if_neg hh, decide_eq_false hh, Bool.false_and]; simp
  unfold firstCode
  rw [e2] at hc ⊢
  exact findIdx?_of_findIdx hc
theorem rowI_tableOf (H : Nat) (l : List Field) : rowI H l = toI ((tableOf H l).headD []) := by
  obtain ⟨t, u, e⟩ := tableOf_ne H l
  unfold rowI tabI
  rw [e]
  rfl
theorem planFrom_I (H : Nat) : ∀ (l : List Field) (h : Nat) (v : Int), h ≤ H → (rowI H l).getD h none = some v → planFrom l (tableOf H l) h = planI H l h
  | [], h, v, hh, e => by
    show planFrom [] [List.replicate (H + 1) (some 0)] h = []
    rfl
  | x :: l, h, v, hh, e => by
    have e0 := e
    rw [rowI_cons_getD H x l h hh] at e
    obtain ⟨hc, n, hn, hv⟩ := chosen_fits e
    have ih := planFrom_I H l (h - (codeAt x (chosen x (rowI H l) h)).holes) n (by omega) hn
    obtain ⟨t, u, et⟩ := tableOf_ne H l
    have er := rowI_tableOf H l
    rw [rowI_tableOf] at e0
    have et2 : tableOf H (x :: l) = rowFor x ((tableOf H l).headD []) :: tableOf H l := rfl
    rw [et2] at e0 ⊢
    have e1 : ((rowFor x ((tableOf H l).headD [])).getD h none).map Int.ofNat = some v := by
      rw [← toI_getD]; exact e0
    show (match (rowFor x ((tableOf H l).headD [])).getD h none with
      | none => []
      | some v => match firstCode x ((tableOf H l).headD []) h v with
        | none => []
        | some c => c :: planFrom l (tableOf H l) (h - (codeAt x c).holes)) = _
    cases q : (rowFor x ((tableOf H l).headD [])).getD h none with
    | none => rw [q] at e1; cases e1
    | some w =>
      rw [q] at e1
      have ew : (w : Int) = v := Option.some.inj e1
      have ef := firstCode_chosen (x := x) (next := (tableOf H l).headD []) (h := h) (v := w) (by rw [← er, e, ew])
      show (match firstCode x ((tableOf H l).headD []) h w with
        | none => []
        | some c => c :: planFrom l (tableOf H l) (h - (codeAt x c).holes)) = _
      rw [ef, ← er]
      show chosen x (rowI H l) h :: planFrom l (tableOf H l) _ = _
      rw [ih]
      rfl
theorem planFrom_none (H : Nat) (l : List Field) (h : Nat) (e : (rowI H l).getD h none = none) (hh : h ≤ H) : planFrom l (tableOf H l) h = [] := by
  cases l with
  | nil => rfl
  | cons x l =>
    rw [rowI_tableOf, toI_getD] at e
    show (match (rowFor x ((tableOf H l).headD [])).getD h none with
      | none => []
      | some v => match firstCode x ((tableOf H l).headD []) h v with
        | none => []
        | some c => c :: planFrom l (tableOf H l) (h - (codeAt x c).holes)) = _
    cases q : (rowFor x ((tableOf H l).headD [])).getD h none with
    | none => rfl
    | some w =>
      have : (rowFor x ((tableOf H l).headD [])).getD h none = none := by
        cases z : (rowFor x ((tableOf H l).headD [])).getD h none with
        | none => rfl
        | some y =>
          have e2 : ((tableOf H (x :: l)).headD []).getD h none = some y := z
          rw [e2] at e; cases e
      rw [this] at q; cases q
/-- what the program's least_plan gives -/
def leastPlanI (f : File) : Option (List Nat) := if (rowI f.holes f.fields).getD f.holes none = none then none else some (planI f.holes f.fields f.holes)
theorem leastPlan_some {f : File} {v : Nat} (e : least f = some v) : leastPlan f = planI f.holes f.fields f.holes ∧ leastPlanI f = some (planI f.holes f.fields f.holes) ∧ costL f.fields (planI f.holes f.fields f.holes) = v := by
  have e1 := least_I f
  rw [e] at e1
  have e2 : (rowI f.holes f.fields).getD f.holes none = some (v : Int) := e1.symm
  refine ⟨planFrom_I _ _ _ _ (Nat.le_refl _) e2, ?_, ?_⟩
  · unfold leastPlanI; rw [e2]; simp
  · have := (planI_cost _ _ _ _ (Nat.le_refl _) e2).1
    omega
theorem leastPlan_none {f : File} (e : least f = none) : leastPlanI f = none := by
  have e1 := least_I f
  rw [e] at e1
  unfold leastPlanI
  rw [← e1]; simp
/-- a plan told -/
def planTold (l : List Field) : Option (List Nat) → List Int
  | none => [0]
  | some r => 1 :: (costL l r : Int) :: (r.length : Int) :: r.map fun (n : Nat) => (n : Int)
theorem planRow_least (f : File) : planRow (least f) (leastPlan f) = planTold f.fields (leastPlanI f) := by
  cases e : least f with
  | none => rw [leastPlan_none e]; rfl
  | some v =>
    obtain ⟨e1, e2, e3⟩ := leastPlan_some e
    rw [e2, e1]
    show 1 :: (v : Int) :: listRow _ = 1 :: _ :: _
    rw [e3]; rfl

/-! ### how many -/
def countWith (x : Field) (costs : Row) (counts : List Nat) (h : Nat) : Nat :=
  (x.codes.map fun c => if costWith x costs h c ≠ none ∧ costWith x costs h c = leastOf (costsWith x costs h) then counts.getD (h - c.holes) 0 else 0).sum
def countsAhead (x : Field) (costs : Row) (counts : List Nat) : List Nat := (List.range costs.length).map fun h => countWith x costs counts h
def cntI (H : Nat) : List Field → List Nat
  | [] => List.replicate (H + 1) 1
  | x :: l => countsAhead x (rowI H l) (cntI H l)
theorem cntI_length (H : Nat) : ∀ l, (cntI H l).length = H + 1
  | [] => List.length_replicate ..
  | x :: l => by show ((List.range _).map _).length = _; rw [List.length_map, List.length_range, rowI_length]
theorem cntI_eq (H : Nat) : ∀ (l : List Field) (h : Nat), h ≤ H → (cntI H l).getD h 0 = countFrom l (tableOf H l) h
  | [], h, hh => by
    show (List.replicate (H + 1) 1).getD h 0 = 1
    rw [List.getD_eq_getElem?_getD, List.getElem?_replicate, if_pos (by omega)]; rfl
  | x :: l, h, hh => by
    have e0 : (cntI H (x :: l)).getD h 0 = countWith x (rowI H l) (cntI H l) h := by
      show (((List.range (rowI H l).length).map fun h => countWith x (rowI H l) (cntI H l) h)).getD h 0 = _
      rw [List.getD_eq_getElem?_getD, List.getElem?_map, List.getElem?_range (by rw [rowI_length]; omega)]; rfl
    rw [e0]
    have er := rowI_tableOf H l
    have el : leastOf (costsWith x (rowI H l) h) = ((rowFor x ((tableOf H l).headD [])).getD h none).map Int.ofNat := by
      rw [← rowI_cons_getD H x l h hh, rowI_tableOf, toI_getD]; rfl
    show _ = (match (rowFor x ((tableOf H l).headD [])).getD h none with
      | none => 0
      | some v => (x.codes.map fun (c : Code) => if c.holes ≤ h ∧ ((((tableOf H l).headD []).getD (h - c.holes) none).map fun n => paid x c + n) = some v then countFrom l (tableOf H l) (h - c.holes) else 0).foldl (fun a b => a + b) 0)
    unfold countWith
    cases q : (rowFor x ((tableOf H l).headD [])).getD h none with
    | none =>
      rw [q] at el
      show _ = 0
      have z : ∀ c ∈ x.codes, (if costWith x (rowI H l) h c ≠ none ∧ costWith x (rowI H l) h c = leastOf (costsWith x (rowI H l) h) then (cntI H l).getD (h - c.holes) 0 else 0) = 0 := by
        intro c _
        rw [el]
        refine if_neg fun k => k.1 k.2
      rw [List.map_congr_left z]
      clear z
      induction x.codes with
      | nil => rfl
      | cons a t ih => rw [List.map_cons, List.sum_cons, ih]
    | some v =>
      rw [q] at el
      show _ = List.foldl _ 0 _
      rw [foldl_add0]
      congr 1
      refine List.map_congr_left fun c _ => ?_
      rw [el, er, costWith_toI]
      by_cases hc : c.holes ≤ h
      · rw [if_pos hc]
        have ih := cntI_eq H l (h - c.holes) (by omega)
        rw [ih]
        cases k : (((tableOf H l).headD []).getD (h - c.holes) none).map fun n => paid x c + n with
        | none => rw [if_neg (by simp), if_neg (by simp)]
        | some w =>
          by_cases kw : w = v
          · subst kw; rw [if_pos (by simp), if_pos ⟨hc, rfl⟩]
          · rw [if_neg (by simp; omega), if_neg (by simp; omega)]
      · rw [if_neg hc, if_neg (by simp), if_neg fun k => hc k.1]
theorem count_eq (f : File) : bestCount f = (cntI f.holes f.fields).getD f.holes 0 := by
  rw [cntI_eq _ _ _ (Nat.le_refl _)]
  unfold bestCount
  cases e : least f with
  | none =>
    show 0 = _
    have e1 : ((tableOf f.holes f.fields).getD 0 []).getD f.holes none = none := e
    cases hf : f.fields with
    | nil =>
      rw [hf] at e1
      have e2 : (List.replicate (f.holes + 1) (some 0)).getD f.holes none = none := e1
      rw [List.getD_eq_getElem?_getD, List.getElem?_replicate, if_pos (by omega)] at e2
      cases e2
    | cons x l =>
      rw [hf] at e1
      have e2 : (rowFor x ((tableOf f.holes l).headD [])).getD f.holes none = none := e1
      show 0 = (match (rowFor x ((tableOf f.holes l).headD [])).getD f.holes none with
        | none => 0
        | some v => _)
      rw [e2]
  | some v => rfl
end Nt

set_option maxHeartbeats 4000000
namespace Nt
open Vbenaj
/-! ### what a file keeps to -/
structure OkC (c : Code) : Prop where
  h : c.holes ≤ 60
  k : c.cost ≤ 1000000
  n1 : 1 ≤ c.name.length
  n2 : c.name.length ≤ 12
  n3 : ∀ b ∈ c.name, 97 ≤ b ∧ b ≤ 122
structure OkX (x : Field) : Prop where
  a : x.asked ≤ 1000
  n : x.codes.length ≤ 8
  c : ∀ c ∈ x.codes, OkC c
  n1 : 1 ≤ x.name.length
  n2 : x.name.length ≤ 12
  n3 : ∀ b ∈ x.name, 97 ≤ b ∧ b ≤ 122
structure OkF (f : File) : Prop where
  h : f.holes ≤ 60
  n : f.fields.length ≤ 10
  x : ∀ x ∈ f.fields, OkX x
theorem costsWith_length (x : Field) (r : Row) (h : Nat) : (costsWith x r h).length = x.codes.length := List.length_map ..
/-- numbers of a row that are not too great -/
def Sm (B : Int) (r : Row) : Prop := ∀ n, some n ∈ r → -B ≤ n ∧ n ≤ B
theorem getD_mem' {r : Row} {h : Nat} {n : Int} (e : r.getD h none = some n) : some n ∈ r := by
  rw [List.getD_eq_getElem?_getD] at e
  cases q : r[h]? with
  | none => rw [q] at e; cases e
  | some o =>
    rw [q] at e
    have e2 : o = some n := e
    rw [← e2]
    exact List.mem_of_getElem? q
theorem getD_some {α : Type} {r : List α} {h : Nat} {d : α} (hh : h < r.length) : r[h]? = some (r.getD h d) := by
  rw [List.getD_eq_getElem?_getD, List.getElem?_eq_getElem hh]; rfl
end Nt

set_option maxHeartbeats 4000000
namespace Nt
open Vbenaj
/-! ### signs and words -/
def known (b : Nat) : Bool := decide (b = 10) || decide (b = 32) || (decide (48 ≤ b) && decide (b ≤ 57)) || (decide (97 ≤ b) && decide (b ≤ 122))
def sgn (b : Nat) : Nat := if known b then b else 63
/-- a sign of a word -/
def okc (c : Nat) : Bool := decide (c = 10) || decide (c = 63) || (decide (48 ≤ c) && decide (c ≤ 57)) || (decide (97 ≤ c) && decide (c ≤ 122))
def splitOn (s : Nat) : List Nat → List (List Nat)
  | [] => [[]]
  | c :: r => if c = s then [] :: splitOn s r else match splitOn s r with
    | [] => [[c]]
    | w :: l => (c :: w) :: l
theorem splitOn_ne (s : Nat) : ∀ l, ∃ w r, splitOn s l = w :: r
  | [] => ⟨_, _, rfl⟩
  | c :: r => by
    unfold splitOn
    split
    · exact ⟨_, _, rfl⟩
    · obtain ⟨w, l, e⟩ := splitOn_ne s r
      rw [e]
      exact ⟨_, _, rfl⟩
/-- words between blanks, from a place on -/
def wl : Nat → List (List Nat) → List (Nat × List Nat)
  | _, [] => []
  | p, w :: r => (p, w) :: wl (p + w.length + 1) r
/-- lines' words; ahead of each but the first a line's end -/
def wf : Bool → Nat → List (List Nat) → List (Nat × List Nat)
  | _, _, [] => []
  | true, p, l :: r => wl p (splitOn 32 l) ++ wf false (p + l.length) r
  | false, p, l :: r => (p, [10]) :: (wl (p + 1) (splitOn 32 l) ++ wf false (p + 1 + l.length) r)
theorem cut_wf : ∀ (t : List Nat) (p : Nat), VbenCore.cut p t = wf true p (splitOn 10 t)
  | [], p => rfl
  | c :: r, p => by
    have ih := cut_wf r (p + 1)
    obtain ⟨l0, ls, e⟩ := splitOn_ne 10 r
    rw [e] at ih
    have ih2 : VbenCore.cut (p + 1) r = wl (p + 1) (splitOn 32 l0) ++ wf false (p + 1 + l0.length) ls := ih
    show (if c = 32 then (p, []) :: VbenCore.cut (p + 1) r else if c = 10 then (p, []) :: (p, [10]) :: VbenCore.cut (p + 1) r else match VbenCore.cut (p + 1) r with
      | [] => [(p, [c])]
      | (_, w) :: l => (p, c :: w) :: l) = wf true p (splitOn 10 (c :: r))
    by_cases h32 : c = 32
    · subst h32
      rw [if_pos rfl]
      have e2 : splitOn 10 (32 :: r) = (32 :: l0) :: ls := by
        show (if (32 : Nat) = 10 then _ else match splitOn 10 r with | [] => [[32]] | w :: l => (32 :: w) :: l) = _
        rw [if_neg (by decide), e]
      rw [e2, ih2]
      show _ = wl p (splitOn 32 (32 :: l0)) ++ wf false (p + (l0.length + 1)) ls
      have e3 : splitOn 32 (32 :: l0) = [] :: splitOn 32 l0 := by
        show (if (32 : Nat) = 32 then _ else _) = _
        rw [if_pos rfl]
      rw [e3]
      show _ = (p, []) :: wl (p + 0 + 1) (splitOn 32 l0) ++ wf false (p + (l0.length + 1)) ls
      rw [show p + 0 + 1 = p + 1 from rfl, show p + (l0.length + 1) = p + 1 + l0.length by omega]
      rfl
    · rw [if_neg h32]
      by_cases h10 : c = 10
      · subst h10
        rw [if_pos rfl]
        have e2 : splitOn 10 (10 :: r) = [] :: l0 :: ls := by
          show (if (10 : Nat) = 10 then _ else _) = _
          rw [if_pos rfl, e]
        rw [e2, ih2]
        rfl
      · rw [if_neg h10]
        have e2 : splitOn 10 (c :: r) = (c :: l0) :: ls := by
          show (if c = 10 then _ else match splitOn 10 r with | [] => [[c]] | w :: l => (c :: w) :: l) = _
          rw [if_neg h10, e]
        obtain ⟨w, l, e3⟩ := splitOn_ne 32 l0
        have e4 : splitOn 32 (c :: l0) = (c :: w) :: l := by
          show (if c = 32 then _ else match splitOn 32 l0 with | [] => [[c]] | w :: l => (c :: w) :: l) = _
          rw [if_neg h32, e3]
        rw [e2, ih2, e3]
        show (p, c :: w) :: (wl (p + 1 + w.length + 1) l ++ wf false (p + 1 + l0.length) ls) = wl p (splitOn 32 (c :: l0)) ++ wf false (p + (l0.length + 1)) ls
        rw [e4]
        show _ = (p, c :: w) :: (wl (p + (w.length + 1) + 1) l ++ wf false (p + (l0.length + 1)) ls)
        rw [show p + (w.length + 1) + 1 = p + 1 + w.length + 1 by omega, show p + (l0.length + 1) = p + 1 + l0.length by omega]
/-- the words of a text as the program has them -/
def wordsI (t : List Nat) : List (Nat × List Nat) := wf true 0 (splitOn 10 (t.map sgn))
def msg (w : Nat × List Nat) : Nat × List Nat := (w.1, w.2.map sgn)
theorem sgn_32 (c : Nat) : sgn c = 32 ↔ c = 32 := by
  unfold sgn
  by_cases h : known c = true
  · rw [if_pos h]
  · rw [if_neg h]
    constructor
    · intro z; cases z
    · intro z; subst z; exact absurd rfl h
theorem sgn_10 (c : Nat) : sgn c = 10 ↔ c = 10 := by
  unfold sgn
  by_cases h : known c = true
  · rw [if_pos h]
  · rw [if_neg h]
    constructor
    · intro z; cases z
    · intro z; subst z; exact absurd rfl h
theorem cut_sgn : ∀ (t : List Nat) (p : Nat), VbenCore.cut p (t.map sgn) = (VbenCore.cut p t).map msg
  | [], p => rfl
  | c :: r, p => by
    have ih := cut_sgn r (p + 1)
    show (if sgn c = 32 then (p, []) :: VbenCore.cut (p + 1) (r.map sgn) else if sgn c = 10 then (p, []) :: (p, [10]) :: VbenCore.cut (p + 1) (r.map sgn) else match VbenCore.cut (p + 1) (r.map sgn) with
      | [] => [(p, [sgn c])]
      | (_, w) :: l => (p, sgn c :: w) :: l) = (if c = 32 then (p, []) :: VbenCore.cut (p + 1) r else if c = 10 then (p, []) :: (p, [10]) :: VbenCore.cut (p + 1) r else match VbenCore.cut (p + 1) r with
      | [] => [(p, [c])]
      | (_, w) :: l => (p, c :: w) :: l).map msg
    rw [ih]
    by_cases h32 : c = 32
    · rw [if_pos h32, if_pos ((sgn_32 c).mpr h32)]
      rfl
    · rw [if_neg h32, if_neg fun z => h32 ((sgn_32 c).mp z)]
      by_cases h10 : c = 10
      · rw [if_pos h10, if_pos ((sgn_10 c).mpr h10)]
        rfl
      · rw [if_neg h10, if_neg fun z => h10 ((sgn_10 c).mp z)]
        cases VbenCore.cut (p + 1) r with
        | nil => rfl
        | cons a l => rfl
theorem wordsI_cut (t : List Nat) : wordsI t = (VbenCore.cut 0 t).map msg := by
  unfold wordsI
  rw [← cut_wf, cut_sgn]
theorem okc_sgn {c : Nat} (h : sgn c ≠ 32) : okc (sgn c) = true := by
  unfold sgn at h ⊢
  by_cases k : known c = true
  · rw [if_pos k] at h ⊢
    unfold known at k
    unfold okc
    simp only [Bool.or_eq_true, Bool.and_eq_true, decide_eq_true_eq] at k ⊢
    omega
  · rw [if_neg k]
    rfl
theorem cut_okc : ∀ (t : List Nat) (p : Nat), ∀ w ∈ (VbenCore.cut p t).map msg, ∀ c ∈ w.2, okc c = true
  | [], p, w, hw, c, hc => by
    have e : w = (p, []) := by simpa [VbenCore.cut, msg] using hw
    rw [e] at hc
    cases hc
  | b :: r, p, w, hw, c, hc => by
    have ih := cut_okc r (p + 1)
    have hw2 : w ∈ (if b = 32 then (p, []) :: VbenCore.cut (p + 1) r else if b = 10 then (p, []) :: (p, [10]) :: VbenCore.cut (p + 1) r else match VbenCore.cut (p + 1) r with
      | [] => [(p, [b])]
      | (_, w) :: l => (p, b :: w) :: l).map msg := hw
    by_cases h32 : b = 32
    · rw [if_pos h32, List.map_cons] at hw2
      rcases List.mem_cons.mp hw2 with e | e
      · rw [e] at hc; cases hc
      · exact ih w e c hc
    · rw [if_neg h32] at hw2
      by_cases h10 : b = 10
      · rw [if_pos h10, List.map_cons, List.map_cons] at hw2
        rcases List.mem_cons.mp hw2 with e | e
        · rw [e] at hc; cases hc
        · rcases List.mem_cons.mp e with e | e
          · rw [e] at hc
            have : c = 10 := by simpa [msg, sgn, known] using hc
            rw [this]
            rfl
          · exact ih w e c hc
      · rw [if_neg h10] at hw2
        have ob : okc (sgn b) = true := okc_sgn fun z => h32 ((sgn_32 b).mp z)
        cases q : VbenCore.cut (p + 1) r with
        | nil =>
          rw [q] at hw2
          have e : w = (p, [sgn b]) := by simpa [msg] using hw2
          rw [e] at hc
          have : c = sgn b := by simpa using hc
          rw [this]
          exact ob
        | cons a l =>
          rw [q] at hw2 ih
          obtain ⟨a1, a2⟩ := a
          have hw3 : w ∈ (p, sgn b :: a2.map sgn) :: l.map msg := hw2
          rcases List.mem_cons.mp hw3 with e | e
          · rw [e] at hc
            rcases List.mem_cons.mp hc with e2 | e2
            · rw [e2]; exact ob
            · exact ih (a1, a2.map sgn) List.mem_cons_self c e2
          · exact ih w (List.mem_cons_of_mem _ e) c hc
theorem wordsI_okc (t : List Nat) : ∀ w ∈ wordsI t, ∀ c ∈ w.2, okc c = true := by
  rw [wordsI_cut]
  exact cut_okc t 0
/-! ### numbers -/
def numOk (w : List Nat) (hi : Nat) : Bool := match VbenCore.natOf w with
  | some n => decide (n ≤ hi)
  | none => false
theorem fold_low (l : List Nat) : ∀ v, v * 10 ^ l.length ≤ l.foldl (fun a c => a * 10 + (c - 48)) v := by
  induction l with
  | nil => intro v; simp
  | cons c l ih =>
    intro v
    rw [List.foldl_cons, List.length_cons, Nat.pow_succ]
    refine Nat.le_trans ?_ (ih (v * 10 + (c - 48)))
    have : v * 10 ≤ v * 10 + (c - 48) := Nat.le_add_right _ _
    calc v * (10 ^ l.length * 10) = (v * 10) * 10 ^ l.length := by rw [Nat.mul_comm (10 ^ l.length) 10, Nat.mul_assoc]
      _ ≤ (v * 10 + (c - 48)) * 10 ^ l.length := Nat.mul_le_mul_right _ this
def digV (w : List Nat) : Nat := w.foldl (fun a c => a * 10 + (c - 48)) 0
theorem valueOf_digV (w : List Nat) : VbenCore.valueOf 10 (w.map fun c => c - 48) = digV w := by
  unfold VbenCore.valueOf digV
  rw [List.foldl_map]
/-- what the program asks of a number's signs -/
def isNumP (w : List Nat) (L hi : Nat) : Bool := if (w = [] ∨ w.all VbenCore.isDigit = false) ∨ L < w.length then false else if 1 < w.length ∧ w.head? = some 48 then false else decide (digV w ≤ hi)
theorem isNum_eq {w : List Nat} {L hi : Nat} (hL : 1 ≤ L) (h1 : hi < 10 ^ L) (h2 : L ≤ 300) : isNumP w L hi = numOk w hi := by
  unfold isNumP numOk
  unfold VbenCore.natOf
  rw [valueOf_digV]
  by_cases a : w = [] ∨ w.all VbenCore.isDigit = false
  · rw [if_pos (.inl a)]
    rw [if_pos]
    rcases a with a | a
    · exact .inl (by rw [a]; rfl)
    · exact .inr (.inr (.inl a))
  · have a1 : w ≠ [] := fun z => a (.inl z)
    have a2 : w.all VbenCore.isDigit = true := by
      cases q : w.all VbenCore.isDigit with
      | true => rfl
      | false => exact absurd (.inr q) a
    by_cases z : 1 < w.length ∧ w.head? = some 48
    · have zl : VbenCore.isZeroLed w = true := by
        unfold VbenCore.isZeroLed
        rw [z.2, decide_eq_true z.1]
        rfl
      rw [if_pos (c := w.isEmpty = true ∨ VbenCore.MOSTDIGITS < w.length ∨ w.all VbenCore.isDigit = false ∨ VbenCore.isZeroLed w = true) (.inr (.inr (.inr zl)))]
      by_cases b : L < w.length
      · rw [if_pos (.inr b)]
      · rw [if_neg (fun q => q.elim a b), if_pos z]
    · have zl : VbenCore.isZeroLed w = false := by
        unfold VbenCore.isZeroLed
        by_cases l1 : 1 < w.length
        · have : w.head? ≠ some 48 := fun q => z ⟨l1, q⟩
          rw [beq_eq_false_iff_ne.mpr this]
          rfl
        · rw [decide_eq_false l1, Bool.and_false]
      by_cases b : L < w.length
      · rw [if_pos (.inr b)]
        by_cases m : VbenCore.MOSTDIGITS < w.length
        · rw [if_pos (c := w.isEmpty = true ∨ VbenCore.MOSTDIGITS < w.length ∨ w.all VbenCore.isDigit = false ∨ VbenCore.isZeroLed w = true) (.inr (.inl m))]
        · rw [if_neg (c := w.isEmpty = true ∨ VbenCore.MOSTDIGITS < w.length ∨ w.all VbenCore.isDigit = false ∨ VbenCore.isZeroLed w = true)]
          · show false = decide (digV w ≤ hi)
            refine (decide_eq_false ?_).symm
            cases w with
            | nil => exact absurd rfl a1
            | cons c r =>
              have hc : VbenCore.isDigit c = true := (Bool.and_eq_true_iff.mp (show (VbenCore.isDigit c && r.all VbenCore.isDigit) = true from a2)).1
              have hc2 : 48 ≤ c ∧ c ≤ 57 := by
                unfold VbenCore.isDigit at hc
                simpa only [Bool.and_eq_true, decide_eq_true_eq] using hc
              have hne : c ≠ 48 := fun q => z ⟨by omega, by rw [q]; rfl⟩
              have lo : 1 * 10 ^ r.length ≤ digV (c :: r) := by
                refine Nat.le_trans (Nat.mul_le_mul_right _ ?_) (fold_low r (0 * 10 + (c - 48)))
                omega
              have up : 10 ^ L ≤ 10 ^ r.length := Nat.pow_le_pow_right (by decide) (by rw [List.length_cons] at b; omega)
              omega
          · rintro (q | q | q | q)
            · exact a1 (by cases w with | nil => rfl | cons _ _ => cases q)
            · exact m q
            · rw [a2] at q; cases q
            · rw [zl] at q; cases q
      · rw [if_neg (fun q => q.elim a b), if_neg z, if_neg (c := w.isEmpty = true ∨ VbenCore.MOSTDIGITS < w.length ∨ w.all VbenCore.isDigit = false ∨ VbenCore.isZeroLed w = true)]
        rintro (q | q | q | q)
        · exact a1 (by cases w with | nil => rfl | cons _ _ => cases q)
        · have : VbenCore.MOSTDIGITS = 300 := rfl
          omega
        · rw [a2] at q; cases q
        · rw [zl] at q; cases q
theorem natOf_num {w : List Nat} {hi n : Nat} (h : VbenCore.natOf w = some n) : n = digV w ∧ w ≠ [] ∧ (∀ c ∈ w, 48 ≤ c ∧ c ≤ 57) ∧ w.length ≤ 300 := by
  unfold VbenCore.natOf at h
  rw [valueOf_digV] at h
  split at h
  · cases h
  · rename_i q
    refine ⟨(Option.some.inj h).symm, fun z => q (.inl (by rw [z]; rfl)), fun c hc => ?_, ?_⟩
    · have a2 : w.all VbenCore.isDigit = true := by
        cases r : w.all VbenCore.isDigit with
        | true => rfl
        | false => exact absurd (.inr (.inr (.inl r))) q
      have := List.all_eq_true.mp a2 c hc
      unfold VbenCore.isDigit at this
      simpa only [Bool.and_eq_true, decide_eq_true_eq] using this
    · have : VbenCore.MOSTDIGITS = 300 := rfl
      refine Nat.le_of_not_lt fun z => q (.inr (.inl (by omega)))
end Nt

set_option maxHeartbeats 4000000
namespace Nt
open PySem PySem.Spec PyProof.Rows L2 Evl
/-! ### texts: the mathematics that the library's words need -/
abbrev bS (l : List Nat) : PySem.Str := ⟨l.toArray⟩
theorem pre1 (s c : Nat) (r : List Nat) : TL.pre [s] (c :: r) = decide (c = s) := by
  unfold TL.pre
  show ([c] == [s]) = _
  by_cases h : c = s
  · subst h; simp
  · rw [decide_eq_false h]
    exact beq_eq_false_iff_ne.mpr fun z => h (by injection z)
theorem spl_one (s : Nat) : ∀ (l acc : List Nat), TL.spl [s] 0 acc l = (match splitOn s l with | [] => [acc] | w :: r => (acc ++ w) :: r)
  | [], acc => by
    rw [TL.spl_nil]
    show [acc] = [acc ++ []]
    rw [List.append_nil]
  | c :: r, acc => by
    obtain ⟨w, l, e⟩ := splitOn_ne s r
    by_cases h : c = s
    · rw [TL.spl_hit (by rw [pre1]; exact decide_eq_true h)]
      show acc :: TL.spl [s] 0 [] r = _
      rw [spl_one s r [], e]
      have e2 : splitOn s (c :: r) = [] :: splitOn s r := by
        show (if c = s then [] :: splitOn s r else _) = _
        rw [if_pos h]
      rw [e2, e]
      show acc :: ([] ++ w) :: l = (acc ++ []) :: w :: l
      rw [List.nil_append, List.append_nil]
    · rw [TL.spl_miss (by rw [pre1]; exact decide_eq_false h), spl_one s r (acc ++ [c]), e]
      have e2 : splitOn s (c :: r) = (c :: w) :: l := by
        show (if c = s then _ else match splitOn s r with | [] => [[c]] | w :: l => (c :: w) :: l) = _
        rw [if_neg h, e]
      rw [e2]
      show ((acc ++ [c]) ++ w) :: l = (acc ++ c :: w) :: l
      rw [List.append_assoc]
      rfl
theorem split_one {a : List Nat} {s : Nat} (h : s < 256) : Txt.split (bS a) (bS [s]) = (splitOn s a).map bS := by
  have := SX.split_S (a := a) (b := [s]) (by simp) (by simpa using h)
  refine this.trans ?_
  rw [spl_one]
  obtain ⟨w, l, e⟩ := splitOn_ne s a
  rw [e]
  rfl
theorem join_one (a : List Nat) : ∀ ys : List (List Nat), TL.joinL a ys = VbenCore.between a ys
  | [] => rfl
  | [_] => rfl
  | x :: y :: r => by
    show x ++ (a ++ TL.joinL a (y :: r)) = x ++ a ++ VbenCore.between a (y :: r)
    rw [join_one a (y :: r), List.append_assoc]
theorem join_bS (a : List Nat) (ys : List (List Nat)) : Txt.join (bS a) (ys.map bS) = bS (VbenCore.between a ys) := by
  rw [← join_one]
  exact SX.join_S a ys
theorem between_ones : ∀ l : List Nat, VbenCore.between [] (l.map fun c => [c]) = l
  | [] => rfl
  | [_] => rfl
  | c :: d :: r => by
    show [c] ++ [] ++ VbenCore.between [] ((d :: r).map fun c => [c]) = _
    rw [between_ones (d :: r)]
    rfl
theorem digitsUp_num : ∀ (f n : Nat), 0 < n → n < 10 ^ f → ((VbenCore.digitsUp 10 f n).reverse).map (fun d => d + 48) = TL.numL n
  | 0, n, h0, h => by rw [Nat.pow_zero] at h; omega
  | f + 1, n, h0, h => by
    show ((if n = 0 then [] else n % 10 :: VbenCore.digitsUp 10 f (n / 10)).reverse).map (fun d => d + 48) = _
    rw [if_neg (by omega), List.reverse_cons, List.map_append]
    by_cases q : n < 10
    · rw [TL.numL_lt q]
      have e1 : n / 10 = 0 := by omega
      have e2 : n % 10 = n := by omega
      rw [e1, e2]
      have e3 : VbenCore.digitsUp 10 f 0 = [] := by cases f <;> rfl
      rw [e3]
      show [n + 48] = [48 + n]
      rw [Nat.add_comm]
    · rw [TL.numL_step (by omega), digitsUp_num f (n / 10) (by omega) (by rw [Nat.pow_succ] at h; omega)]
      show _ ++ [n % 10 + 48] = _ ++ [48 + n % 10]
      rw [Nat.add_comm]
theorem natText_num (n : Nat) : VbenCore.natText n = TL.numL n := by
  unfold VbenCore.natText
  by_cases h : n = 0
  · rw [if_pos h, h, TL.numL_lt (by decide)]
  · rw [if_neg h]
    unfold VbenCore.digitsFast
    refine digitsUp_num _ n (by omega) ?_
    unfold VbenCore.lengthFuel
    have h1 : n < 2 ^ (n.log2 + 1) := Nat.lt_log2_self
    have h2 : 2 ^ (n.log2 + 1) ≤ 10 ^ (n.log2 + 1) := Nat.pow_le_pow_left (by decide) _
    have h3 : 10 ^ (n.log2 + 1) ≤ 10 ^ (n.log2 + 2) := Nat.pow_le_pow_right (by decide) (by omega)
    omega
theorem str_num (n : Nat) : Str.ofString (toString ((n : Nat) : Int)) = bS (VbenCore.natText n) := by
  rw [natText_num]
  exact SX.num_S n
theorem natText_len {n k : Nat} (hk : 0 < k) (h : n < 10 ^ k) : (VbenCore.natText n).length ≤ k := by rw [natText_num]; exact TL.numL_len hk h
theorem natText_digits (n : Nat) : ∀ c ∈ VbenCore.natText n, 48 ≤ c ∧ c ≤ 57 := by rw [natText_num]; exact TL.numL_digits n
/-! snoc -/
def wlEnd : Nat → List (List Nat) → Nat
  | p, [] => p
  | p, w :: r => wlEnd (p + w.length + 1) r
theorem wl_snoc : ∀ (a : List (List Nat)) (p : Nat) (w : List Nat), wl p (a ++ [w]) = wl p a ++ [(wlEnd p a, w)]
  | [], _, _ => rfl
  | x :: r, p, w => congrArg ((p, x) :: ·) (wl_snoc r _ w)
theorem wlEnd_snoc : ∀ (a : List (List Nat)) (p : Nat) (w : List Nat), wlEnd p (a ++ [w]) = wlEnd p a + w.length + 1
  | [], _, _ => rfl
  | x :: r, p, w => wlEnd_snoc r _ w
theorem wl_length : ∀ (a : List (List Nat)) (p : Nat), (wl p a).length = a.length
  | [], _ => rfl
  | _ :: r, p => congrArg (· + 1) (wl_length r _)
def wfEnd : Bool → Nat → List (List Nat) → Nat
  | _, p, [] => p
  | true, p, l :: r => wfEnd false (p + l.length) r
  | false, p, l :: r => wfEnd false (p + 1 + l.length) r
theorem wf_snoc0 : ∀ (a : List (List Nat)) (p : Nat) (w : List Nat), wf false p (a ++ [w]) = wf false p a ++ ((wfEnd false p a, [10]) :: wl (wfEnd false p a + 1) (splitOn 32 w))
  | [], p, w => by
    show (p, [10]) :: (wl (p + 1) (splitOn 32 w) ++ []) = _
    rw [List.append_nil]
    rfl
  | x :: r, p, w => by
    show (p, [10]) :: (wl (p + 1) (splitOn 32 x) ++ wf false (p + 1 + x.length) (r ++ [w])) = ((p, [10]) :: (wl (p + 1) (splitOn 32 x) ++ wf false (p + 1 + x.length) r)) ++ _
    rw [wf_snoc0 r]
    simp only [List.cons_append, List.append_assoc]
    rfl
theorem wf_snoc {a : List (List Nat)} {p : Nat} {w : List Nat} (h : a ≠ []) : wf true p (a ++ [w]) = wf true p a ++ ((wfEnd true p a, [10]) :: wl (wfEnd true p a + 1) (splitOn 32 w)) := by
  cases a with
  | nil => exact absurd rfl h
  | cons x r =>
    show wl p (splitOn 32 x) ++ wf false (p + x.length) (r ++ [w]) = (wl p (splitOn 32 x) ++ wf false (p + x.length) r) ++ _
    rw [wf_snoc0 r, List.append_assoc]
    rfl
theorem wfEnd_snoc0 : ∀ (a : List (List Nat)) (p : Nat) (w : List Nat), wfEnd false p (a ++ [w]) = wfEnd false p a + 1 + w.length
  | [], _, _ => rfl
  | x :: r, p, w => wfEnd_snoc0 r _ w
theorem wfEnd_snoc {a : List (List Nat)} {p : Nat} {w : List Nat} (h : a ≠ []) : wfEnd true p (a ++ [w]) = wfEnd true p a + 1 + w.length := by
  cases a with
  | nil => exact absurd rfl h
  | cons x r => exact wfEnd_snoc0 r _ w
/-! lengths -/
theorem splitOn_len (s : Nat) : ∀ l : List Nat, (splitOn s l).length ≤ l.length + 1
  | [] => Nat.le_refl _
  | c :: r => by
    have ih := splitOn_len s r
    obtain ⟨w, l, e⟩ := splitOn_ne s r
    show (if c = s then [] :: splitOn s r else match splitOn s r with | [] => [[c]] | w :: l => (c :: w) :: l).length ≤ _
    rw [e] at ih ⊢
    by_cases h : c = s
    · rw [if_pos h]
      simp only [List.length_cons] at ih ⊢
      omega
    · rw [if_neg h]
      simp only [List.length_cons] at ih ⊢
      omega
theorem splitOn_sum (s : Nat) : ∀ l : List Nat, ((splitOn s l).map (fun w => w.length + 1)).sum = l.length + 1
  | [] => rfl
  | c :: r => by
    have ih := splitOn_sum s r
    obtain ⟨w, l, e⟩ := splitOn_ne s r
    show ((if c = s then [] :: splitOn s r else match splitOn s r with | [] => [[c]] | w :: l => (c :: w) :: l).map (fun w => w.length + 1)).sum = _
    rw [e] at ih ⊢
    by_cases h : c = s
    · rw [if_pos h]
      simp only [List.map_cons, List.sum_cons, List.length_cons, List.length_nil] at ih ⊢
      omega
    · rw [if_neg h]
      simp only [List.map_cons, List.sum_cons, List.length_cons] at ih ⊢
      omega
theorem sum_mem {l : List Nat} {a : Nat} (h : a ∈ l) : a ≤ l.sum := by
  induction l with
  | nil => cases h
  | cons b r ih =>
    rw [List.sum_cons]
    rcases List.mem_cons.mp h with e | e
    · omega
    · have := ih e
      omega
theorem splitOn_mem {s : Nat} {l w : List Nat} (h : w ∈ splitOn s l) : w.length ≤ l.length := by
  have := sum_mem (List.mem_map.mpr ⟨w, h, rfl⟩ : w.length + 1 ∈ (splitOn s l).map (fun w => w.length + 1))
  rw [splitOn_sum] at this
  omega
/-! signs -/
theorem okc_tab : ∀ c ∈ List.range 128, okc c = true → Unicode.isAlpha c = VbenCore.isLetter c ∧ Unicode.isDigit c = VbenCore.isDigit c := by decide +kernel
theorem okc_at {c : Nat} (h : okc c = true) : Unicode.isAlpha c = VbenCore.isLetter c ∧ Unicode.isDigit c = VbenCore.isDigit c := by
  refine okc_tab c (List.mem_range.mpr ?_) h
  unfold okc at h
  simp only [Bool.or_eq_true, Bool.and_eq_true, decide_eq_true_eq] at h
  omega
theorem all_congr' {l : List Nat} {p q : Nat → Bool} (h : ∀ c ∈ l, p c = q c) : l.all p = l.all q := by
  induction l with
  | nil => rfl
  | cons a r ih => simp only [List.all_cons, h a List.mem_cons_self, ih fun c hc => h c (List.mem_cons_of_mem _ hc)]
theorem isalpha_ok {w : List Nat} (h : ∀ c ∈ w, okc c = true) : Txt.isalpha (bS w) = (decide (w ≠ []) && w.all VbenCore.isLetter) := by
  show (decide (w.toArray.size > 0) && w.toArray.all Unicode.isAlpha) = _
  have e : w.toArray.all Unicode.isAlpha = w.all Unicode.isAlpha := by rw [← Array.all_toList]
  rw [e, all_congr' fun c hc => (okc_at (h c hc)).1]
  cases w <;> simp
theorem isdigit_ok {w : List Nat} (h : ∀ c ∈ w, okc c = true) : Txt.isdigit (bS w) = (decide (w ≠ []) && w.all VbenCore.isDigit) := by
  show (decide (w.toArray.size > 0) && w.toArray.all Unicode.isDigit) = _
  have e : w.toArray.all Unicode.isDigit = w.all Unicode.isDigit := by rw [← Array.all_toList]
  rw [e, all_congr' fun c hc => (okc_at (h c hc)).2]
  cases w <;> simp
/-! ### readings of texts -/
section
variable {K : PySem.W.Frag} {σ : L2.St} {H H0 H' : Hp} {ta tb te tl : TE} {x y : V} {D1 : Ends}
abbrev rSplit : V → List V → Hp → VK → Prop := fun x xs H Q => ∃ a b, x = .str a ∧ xs = [.str b] ∧ (b.length == 0) = false ∧ a.length + 2 ≤ sizeLine ∧ rNewStrs (Txt.split a b) H Q
theorem el_split {a : List Nat} {s : Nat} (h1 : Ev ta σ H (.str (bS a))) (h2 : Ev tb σ H (.str (bS [s]))) (hs : s < 256) (hz : a.length ≤ 90000) : EvL (tM1 rSplit ta tb) σ H ((splitOn s a).map fun w => V.str (bS w)) := fun H1 e Q q =>
  h1 H1 e _ fun H2 e2 => ⟨⟨_, rfl⟩, h2 H2 (e.trans e2) _ fun H3 e3 => ⟨_, _, rfl, rfl, rfl, sz_of (by show a.length + 2 ≤ _; omega), fun p hp => by
    rw [split_one hs, List.map_map]
    exact q p _ (fresh_back (e2.trans e3) hp) ((e2.trans e3).trans (Ex.new hp)) upd_same⟩⟩
abbrev rJoin (K : PySem.W.Frag) : V → List V → Hp → VK → Prop := fun x xs H Q => ∃ a p, ∃ ys : List PySem.Str, x = .str a ∧ xs = [.ref p] ∧ (SqL K H p (ys.map V.str) ∨ SqT K H p (ys.map V.str)) ∧ (ys.map (·.length)).sum + ys.length * a.length ≤ 16777216 ∧ Q (.str (Txt.join a ys)) H
theorem lens_bS (ys : List (List Nat)) : ((ys.map bS).map (·.length)) = ys.map (·.length) := by
  rw [List.map_map]
  refine List.map_congr_left fun w _ => ?_
  show w.toArray.size = _
  simp
theorem ev_join {a : List Nat} {ys : List (List Nat)} (h1 : Ev ta σ H (.str (bS a))) (h2 : EvL tb σ H (ys.map fun w => V.str (bS w))) (hz : (ys.map (·.length)).sum + ys.length * a.length ≤ 16777216) : Ev (tM1 (rJoin K) ta tb) σ H (.str (bS (VbenCore.between a ys))) := fun H1 e Q q =>
  h1 H1 e _ fun H2 e2 => ⟨⟨_, rfl⟩, h2 H2 (e.trans e2) _ fun p H3 _ e3 hp => ⟨_, p, ys.map bS, rfl, rfl, .inl (by rw [List.map_map]; exact sq_of hp), by rw [lens_bS, List.length_map]; exact hz, by rw [join_bS]; exact q H3 (e2.trans e3)⟩⟩
/-- .. a list that stands -/
theorem ev_joinA {a : List Nat} {ys : List (List Nat)} {p : Addr} (h1 : Ev ta σ H (.str (bS a))) (h2 : Ev tb σ H (.ref p)) (hp : H p = some (.lst (ys.map fun w => V.str (bS w)))) (hz : (ys.map (·.length)).sum + ys.length * a.length ≤ 16777216) : Ev (tM1 (rJoin K) ta tb) σ H (.str (bS (VbenCore.between a ys))) := fun H1 e Q q =>
  h1 H1 e _ fun H2 e2 => ⟨⟨_, rfl⟩, h2 H2 (e.trans e2) _ fun H3 e3 => ⟨_, p, ys.map bS, rfl, rfl, .inl (by rw [List.map_map]; exact sq_of (((e.trans e2).trans e3) _ _ hp)), by rw [lens_bS, List.length_map]; exact hz, by rw [join_bS]; exact q H3 (e2.trans e3)⟩⟩
theorem ev_strN {n : Nat} (h : Ev ta σ H (.int (n : Nat))) (hn : n ≤ 1000000) : Ev (tCB (fun xs H Q => ∃ i : Int, xs = [.int i] ∧ i.natAbs.log2 < 1920 ∧ Q (.str (Str.ofString (toString i))) H) (tCons ta tNil)) σ H (.str (bS (VbenCore.natText n))) := fun H1 e Q q =>
  h H1 e _ fun H2 e2 => ⟨_, rfl, by
    rw [Int.natAbs_natCast]
    rcases Nat.eq_zero_or_pos n with z | z
    · rw [z]; decide
    · exact Nat.lt_of_lt_of_le ((Nat.log2_lt (k := 20) (by omega)).mpr (Nat.lt_of_le_of_lt hn (by decide))) (by decide), by rw [str_num]; exact q H2 e2⟩
theorem ev_lenS {w : List Nat} (h : Ev ta σ H (.str (bS w))) (hz : w.length ≤ 100000) : Ev (tCB (fun xs H Q => ∃ z : PySem.Str, xs = [.str z] ∧ z.length ≤ sizeLine ∧ Q (.int z.length) H) (tCons ta tNil)) σ H (.int (w.length : Nat)) := fun H1 e Q q =>
  h H1 e _ fun H2 e2 => ⟨_, rfl, sz_of (by show w.toArray.size ≤ _; simpa using hz), q H2 e2⟩
theorem ev_alpha {w : List Nat} (h : Ev ta σ H (.str (bS w))) (ok : ∀ c ∈ w, okc c = true) : Ev (tM0 (fun x xs H Q => ∃ a, x = .str a ∧ xs = [] ∧ True ∧ Q (.bl (Txt.isalpha a)) H) ta) σ H (.bl (decide (w ≠ []) && w.all VbenCore.isLetter)) := fun H1 e Q q =>
  h H1 e _ fun H2 e2 => ⟨⟨_, rfl⟩, _, rfl, rfl, trivial, by rw [isalpha_ok ok]; exact q H2 e2⟩
theorem ev_digit {w : List Nat} (h : Ev ta σ H (.str (bS w))) (ok : ∀ c ∈ w, okc c = true) : Ev (tM0 (fun x xs H Q => ∃ a, x = .str a ∧ xs = [] ∧ True ∧ Q (.bl (Txt.isdigit a)) H) ta) σ H (.bl (decide (w ≠ []) && w.all VbenCore.isDigit)) := fun H1 e Q q =>
  h H1 e _ fun H2 e2 => ⟨⟨_, rfl⟩, _, rfl, rfl, trivial, by rw [isdigit_ok ok]; exact q H2 e2⟩
theorem ev_intS {w : List Nat} (h : Ev ta σ H (.str (bS w))) (h1 : w.all VbenCore.isDigit = true) (h2 : w ≠ []) (h3 : w.length ≤ 600) : Ev (tCB (fun xs H Q => ∃ a n, xs = [.str a] ∧ PySem.intText? a = some n ∧ a.length ≤ 640 ∧ Q (.int n) H) (tCons ta tNil)) σ H (.int (digV w : Nat)) := fun H1 e Q q =>
  h H1 e _ fun H2 e2 => ⟨_, _, rfl, SX.int_S (a := w) h1 h2 (by omega), by show w.toArray.size ≤ _; simp; omega, q H2 e2⟩
theorem ev_ixS {w : List Nat} {i : Int} {c : Nat} (h : Ev ta σ H (.str (bS w))) (h2 : Ev tb σ H (.int i)) (hz : w.length ≤ 100000) (ha : atI w i = some c) : Ev (tOp rIxS ta tb) σ H (.str (bS [c])) :=
  ev_op h h2 (rv_ixS (w := bS w) (by show w.toArray.size ≤ _; simpa using hz) ha)
theorem bS_inj {a b : List Nat} (h : bS a = bS b) : a = b := SX.S_inj h
theorem et_eqS {a b : List Nat} (h1 : Ev ta σ H (.str (bS a))) (h2 : Ev tb σ H (.str (bS b))) : EvT (tTest (tOp rEq ta tb)) σ H (decide (a = b)) := et_is (et_test (ev_op h1 h2 (rv_eq rfl))) (by
  by_cases q : a = b
  · rw [q]; simp
  · rw [decide_eq_false q]
    exact decide_eq_false fun z => q (bS_inj (by injection z)))
theorem et_neS {a b : List Nat} (h1 : Ev ta σ H (.str (bS a))) (h2 : Ev tb σ H (.str (bS b))) : EvT (tTest (tOp rNe ta tb)) σ H (decide (a ≠ b)) := et_is (et_test (ev_op h1 h2 (rv_ne rfl))) (by
  by_cases q : a = b
  · rw [q]; simp
  · rw [decide_eq_true (p := a ≠ b) q]
    have : decide (V.str (bS a) = V.str (bS b)) = false := decide_eq_false fun z => q (bS_inj (by injection z))
    rw [this]
    rfl)
/-- for c in a text that stands written -/
theorem s_forStr {z : List Nat} {j : Nat} {tu : TS} (h : Ev tl σ H (.str (bS z))) (Pv : Nat → L2.St → Hp → Prop) (h0 : ∀ H1, Ex H H1 → Pv 0 σ H1)
    (hs : ∀ i c σ' H', z[i]? = some c → Pv i σ' H' → tu { D1 with nx := Pv (i + 1), ct := Pv (i + 1), bk := D1.nx } (σ'.set j (some (.str (bS [c])))) H') (hd : ∀ σ' H', Pv z.length σ' H' → D1.nx σ' H') : tFor (iStr tl) (gName j) tu D1 σ H :=
  h H (Ex.refl H) _ fun H1 e1 => ⟨_, rfl, for_it (walk_str (z := bS z)) Pv (h0 H1 e1) (fun _ _ _ _ _ => trivial) (fun i x σ' Ha Hb hi p y => by
    obtain ⟨rfl, c, hc, rfl⟩ := y
    exact hs i c σ' Hb (by simpa using hc) p) fun σ' H' p => hd σ' H' (by rw [← (by simp : (bS z).cps.size = z.length)]; exact p)⟩
/-- {} -/
theorem s_dnewK {i : Nat} {tz : TS} (k : ∀ p, H p = none → tz D1 (σ.set i (some (.ref p))) (upd H p (.dK []))) : tSeq (tAsg tDNewK (gName i)) tz D1 σ H := fun p hp => k p hp
/-- d[k] = v -/
theorem s_dputK {td ty tv : TE} {a : Addr} {kvs : List (Key × V)} {k : Key} {v : V} (hv : Ev tv σ H v) (hd : Ev td σ H (.ref a)) (hk : Ev ty σ H (kV k)) (ha : H a = some (.dK kvs)) (hl : kvs.length < sizeLine)
    (q : ∀ H1, Ex H H1 → D1.nx σ (upd H1 a (.dK (putK kvs k v)))) : sDPut td ty tv D1 σ H :=
  hv H (Ex.refl H) _ fun H1 e1 => hd H1 e1 _ fun H2 e2 => hk H2 (e1.trans e2) _ fun H3 e3 => ⟨a, _, rfl, DPut.k (((e1.trans e2).trans e3) _ _ ha) hl, q H3 ((e1.trans e2).trans e3)⟩
theorem ev_dget2 {td ty tx : TE} {a : Addr} {kvs : List (Key × V)} {k : Key} {u z : V} (hd : Ev td σ H (.ref a)) (hk : Ev ty σ H (kV k)) (hx : Ev tx σ H u) (ha : H a = some (.dK kvs)) (hz : (valV kvs k).getD u = z) : Ev (tDGet2 td ty tx) σ H z := fun H1 e Q q =>
  hd H1 e _ fun H2 e2 => ⟨a, rfl, .inl ⟨kvs, .inl ((e.trans e2) _ _ ha)⟩, hk H2 (e.trans e2) _ fun H3 e3 => hx H3 ((e.trans e2).trans e3) _ fun H4 e4 => ⟨_, DGet.k ((((e.trans e2).trans e3).trans e4) _ _ ha), by rw [hz]; exact q H4 ((e2.trans e3).trans e4)⟩⟩
theorem ev_ord {c : Nat} (h : Ev ta σ H (.str (bS [c]))) : Ev (tCB (fun xs H Q => ∃ x : PySem.Str, xs = [.str x] ∧ x.length = 1 ∧ Q (.int (x.cps.getD 0 0 : Nat)) H) (tCons ta tNil)) σ H (.int (c : Nat)) := fun H1 e Q q =>
  h H1 e _ fun H2 e2 => ⟨_, rfl, rfl, q H2 e2⟩
theorem el_lcS {z : List Nat} {j : Nat} {vs : List Nat} {u : Nat → V} (h : Ev tl σ H (.str (bS z))) (hz : z.length ≤ 40000) (hw : ∀ x, wipe ((wipe σ vs).set j (some x)) vs = wipe σ vs)
    (he : ∀ (i : Nat) c H1, Ex H H1 → z[i]? = some c → Ev te ((wipe σ vs).set j (some (.str (bS [c])))) H1 (u c)) : EvL (tLc (iStr tl) (gName j) tYes te vs) σ H (z.map u) := fun H0 e0 Q q => h H0 e0 _ fun H1 e1 => by
  have hl : (bS z).cps.size = z.length := by simp
  refine ⟨_, rfl, comp_go (H1 := H1) (walk_str (z := bS z)) (fun _ => true) (fun i => (z[i]?.map u).getD .non) (by rw [hl]; omega) (fun _ _ => trivial) (fun i x Ha Hb hi ea y => ?_) fun p' H2 hp e2 h2 => ?_⟩
  · obtain ⟨rfl, c, hc, rfl⟩ := y
    have hc2 : z[i]? = some c := by simpa using hc
    refine ⟨_, Hb, Ex.refl Hb, fun Q q => q, hw _, et_yes, fun _ => ?_⟩
    rw [hc2]
    exact he i c Hb ((e0.trans e1).trans ea) hc2
  · refine q p' H2 (fresh_back e1 hp) (e1.trans e2) ?_
    rw [hl, given_filter z (fun _ => true) u _ _ fun i a h => by rw [h]; exact ⟨rfl, rfl⟩, filter_all] at h2
    exact h2
end
theorem sum_le {B : Nat} {ys : List (List Nat)} (h : ∀ w ∈ ys, w.length ≤ B) : (ys.map (·.length)).sum ≤ ys.length * B := by
  induction ys with
  | nil => simp
  | cons a r ih =>
    rw [List.map_cons, List.sum_cons, List.length_cons, Nat.succ_mul]
    have := ih fun w hw => h w (List.mem_cons_of_mem _ hw)
    have := h a List.mem_cons_self
    omega
theorem between_len (a : List Nat) : ∀ ys : List (List Nat), (VbenCore.between a ys).length ≤ (ys.map (·.length)).sum + ys.length * a.length
  | [] => by simp [VbenCore.between]
  | [w] => by simp [VbenCore.between]
  | x :: y :: r => by
    have ih := between_len a (y :: r)
    show (x ++ a ++ VbenCore.between a (y :: r)).length ≤ _
    rw [List.length_append, List.length_append, List.map_cons, List.sum_cons, List.length_cons (a := x), Nat.succ_mul]
    omega
end Nt

set_option maxHeartbeats 4000000
/-! written dicts with whole numbers as keys; defs that may raise -/
namespace L2
open PySem PySem.Spec PyProof.Rows
/-- at d: a written dict with whole numbers as keys; f: what it holds -/
structure ITab (K : PySem.W.Frag) (d : Addr) (f : Int → Option V) : Prop where
  ex : ∃ (es : Array DictEntry) (n : Nat), K.lookup d = some ⟨.type "dict", none, .dict es n, #[]⟩ ∧ (∀ e ∈ es.toList, ∃ k t, e.key = .int k t ∧ e.hash = hashInt k) ∧
    ∀ k, (∀ v, f k = some v → ∃ u, findBy Value.isInt es k = some u ∧ RelV v u) ∧ (f k = none → findBy Value.isInt es k = none)
  other : (d == sysModules) = false
theorem ITab.map {K : PySem.W.Frag} {d : Addr} {f : Int → Option V} (D : ITab K d f) {P : Program} {w : World} {h : Heap} (X : K.In h) :
    ∃ g : Int → Option Value, h.MapOf (intKind P w) d g ∧ ∀ k, (∀ v, f k = some v → ∃ u, g k = some u ∧ RelV v u) ∧ (f k = none → g k = none) := by
  obtain ⟨es, n, hl, hk, hf⟩ := D.ex
  refine ⟨fun k => findBy Value.isInt es k, ⟨_, es, n, X _ _ hl, ⟨rfl, rfl, rfl⟩, rfl, fun e he => ?_, fun _ => rfl⟩, hf⟩
  obtain ⟨k, t, e1, e2⟩ := hk e (Array.mem_toList_iff.mpr he)
  exact ⟨k, by rw [e1]; simp [intKind, Value.isInt], e2⟩
def rIxI (K : PySem.W.Frag) (d : Addr) (f : Int → Option V) : R2 := fun x y H Q => ∃ n v, x = .ref d ∧ y = .int n ∧ f n = some v ∧ Q v H
theorem ix_itab {X : Cx} {d : Addr} {f : Int → Option V} (D : ITab X.K d f) : IxR X (rIxI X.K d f) := fun value slice pins s σ H x y v u Q I rx ry ⟨n, r, ex, ey, e, q⟩ hs => by
  subst ex ey
  cases (show v = Value.ref d from rx)
  obtain ⟨g, hm, told⟩ := D.map (P := X.prog) (w := X.w) I.kIn
  obtain ⟨u0, there, ru⟩ := (told n).1 r e
  obtain ⟨t, et⟩ := ry
  subst et
  exact tail_any hm.typeIs slot_dict_getitem.lookup (wpAny_getItem_of (knd := intKind X.prog X.w) (k := n) (by simp [intKind, Value.isInt]) hm there ⟨r, H, I.tok _, ru, q⟩) hs
/-- d.get(n, z), by values -/
theorem itab_get {X : Cx} {d : Addr} {f : Int → Option V} {pins : List (Addr × Obj)} {σ : St} {H : Hp} {s : Shared} {n : Int} {t : Tok} {z : V} {u : Value} (D : ITab X.K d f) (I : Inv X pins σ H s) (rz : RelV z u) :
    wpAny (model X.prog X.w) X.A (call (.builtin "dict.get") [.ref d, .int n t, u]) (EP X pins σ fun v H' => v = (f n).getD z ∧ H' = H) X.xe s := by
  obtain ⟨g, hm, told⟩ := D.map (P := X.prog) (w := X.w) I.kIn
  have same : RelV ((f n).getD z) ((g n).getD u) := by
    rcases e : f n with _ | v
    · rw [(told n).2 e]
      exact rz
    · obtain ⟨w0, e0, r⟩ := (told n).1 v e
      rw [e0]
      exact r
  exact call_meetsIn PySem.F.slot_dict_get hm.typeIs PySem.F.entry_dict_get (PySem.F.args_dict_get_3 _ _ _) (meets_dict_get_default (intKind X.prog X.w) (k := n) d (by simp [intKind, Value.isInt]) D.other u) ⟨g, hm, ⟨_, H, I.tok _, same, rfl, rfl⟩⟩
/-- d.get(e, x) -/
def tKGet (f : Int → Option V) (ty tx : TE) : TE := fun σ H Q => ty σ H fun y H1 => ∃ n, y = .int n ∧ tx σ H1 fun z H2 => Q ((f n).getD z) H2
theorem pe_kget {X : Cx} {x : Str} {e1 e2 : Expr} {p apos cpos : Pos} {ty tx : TE} {d : Addr} {f : Int → Option V} (D : ITab X.K d f) (hg : Gl X x) (hm : X.mg x = some (.ref d)) (h1 : PE X e1 ty) (h2 : PE X e2 tx) (m : M2 X (.Name x p) "get" apos e1 e2 cpos)
    (hdb : (x == ("__debug__" : Str)) = false := by decide) : PE X (.Call (.Attribute (.Name x p) "get" apos) [e1, e2] [] cpos) (tKGet f ty tx) := ⟨fun pins s σ H Q I h => by
  obtain ⟨g, isD, _⟩ := D.map (P := X.prog) (w := X.w) I.kIn
  have both : wpAny (model X.prog X.w) X.A (spliced [(false, eval e1 X.env), (false, eval e2 X.env)]) (fun us s3 => wpAny (model X.prog X.w) X.A (call (.builtin "dict.get") (.ref d :: us)) (EP X pins σ Q) X.xe s3) X.xe s := by
    refine Calls.spliced_cons (thn (h1.run pins s σ H _ I h) fun u1 s1 hy => ?_)
    obtain ⟨y, H1, I1, ry, n, ey, hz⟩ := hy
    refine Calls.spliced_cons (thn (h2.run pins s1 σ H1 _ I1 hz) fun u2 s2 hz => Calls.spliced_nil ?_)
    obtain ⟨z, H2, I2, rz, q⟩ := hz
    subst ey
    obtain ⟨t, et⟩ := (show ∃ t, u1 = Value.int n t from ry)
    subst et
    refine thn (itab_get D I2 rz) fun u3 s3 hv => ?_
    obtain ⟨v, H3, I3, rv, ev, eH⟩ := hv
    subst ev eH
    exact ⟨_, _, I3, rv, q⟩
  refine wpAny_Call_method m.base m.few m.line PySem.F.plainAttrs_dict PySem.F.slot_dict_get PySem.F.type_dict_get (ld_glob I hg hm ⟨isD.typeIs, isD.noDict, ?_⟩ hdb)
  rw [m.trees]
  exact Calls.callWith_builtin rfl (Calls.evalArgs_plain both)⟩
/-! ### defs that may raise -/
/-- a def that may raise, under its name -/
structure CalX (P : Program) (w : World) (K : PySem.W.Frag) (mg : Str → Option Value) (base : Heap) (k : Nat) (x : Str) (sp : Sp) : Prop where
  ex : ∃ (f : Addr) (fd : FuncData) (ps : List Str), FnOk P w K mg base (L2.CX P w) k f fd ps sp ∧ mg x = some (.ref f) ∧ PySem.W.keepIn K (.ref f) = true ∧ Binds K fd ps []
/-- an own error class, made with its own __init__ -/
structure Ini (P : Program) (w : World) (K : PySem.W.Frag) (mg : Str → Option Value) (base : Heap) (k : Nat) (c : Str) (sp : Sp) : Prop where
  er : ErC K (He.ga K c)
  g : mg c = some (.ref (He.ga K c))
  fn : ∃ (f : Addr) (fd : FuncData) (ps : List Str), PySem.W.findIn K (.ref (He.ga K c)) "__init__" = some (some (.ref f)) ∧ PySem.W.typeIn K (.ref f) = some (.type "function") ∧ FnOk P w K mg base C8.CX0 k f fd ps sp ∧ Binds K fd ps []
/-- a class's def, called by the class's name -/
structure Clm (P : Program) (w : World) (K : PySem.W.Frag) (mg : Str → Option Value) (base : Heap) (k : Nat) (c m : Str) (sp : Sp) : Prop where
  g : mg c = some (.ref (He.ga K c))
  fn : ∃ (f : Addr) (fd : FuncData) (ps : List Str), ClF K (He.ga K c) m f ∧ PySem.W.keepIn K (.ref f) = true ∧ FnOk P w K mg base C8.CX0 k f fd ps sp ∧ Binds K fd ps []
section
variable {X : Cx} {k j : Nat} {x c m : Str} {sp : Sp} {p p1 p2 pos pos2 : Pos} {e : Expr} {es : List Expr} {t : TA} {W : WX} {E : XK}
theorem pe_cX (c : CalX X.prog X.w X.K X.mg X.base k x sp) (hr : Room j X.A) (hk : k ≤ j) (hg : Gl X x) (tk : Takes X (fun cls d _ H => E cls d H)) (ha : PA X (e :: es) t)
    (hd : (x == ("__debug__" : Str)) = false := by decide) (h1 : Plain1 X e es := by rfl) (h2 : PlainR X es pos := by rfl) :
    PE X (.Call (.Name x p) (e :: es) [] pos) (tCall sp [] E t) := by
  obtain ⟨f, fd, ps, F, hm, kp, b⟩ := c.ex
  exact pe_call F (hr.mono hk) hg hm kp b .nil (passes_call tk fun _ _ _ _ h => h) ha hd h1 h2
theorem pe_cS (c : CalX X.prog X.w X.K X.mg X.base k x sp) (hr : Room j X.A) (hk : k ≤ j) (hg : Gl X x) (tk : Takes X W) (ha : PA X (e :: es) t)
    (hd : (x == ("__debug__" : Str)) = false := by decide) (h1 : Plain1 X e es := by rfl) (h2 : PlainR X es pos := by rfl) :
    PE X (.Call (.Name x p) (e :: es) [] pos) (tCallS sp (WE W) t) := by
  obtain ⟨f, fd, ps, F, hm, kp, b⟩ := c.ex
  exact pe_callS F (hr.mono hk) hg hm kp b (passAt tk) ha hd h1 h2
/-- raise C(e, ..) -/
theorem ps_rai (I : Ini X.prog X.w X.K X.mg X.base k c sp) (hc : X.calm = true) (hr : Room j X.A) (hk : k + 1 ≤ j) (hg : Gl X c) (tk : Takes X W) (ha : PA X (e :: es) t)
    (hd : (c == ("__debug__" : Str)) = false := by decide) (h1 : Plain1 X e es := by rfl) (h2 : PlainR X es pos := by rfl) :
    PS X (.Raise (some (.Call (.Name c p) (e :: es) [] pos)) none pos2) (fun _ σ H => tMkO (He.ga X.K c) sp [] t σ H fun cls d H' => W cls d σ H') := by
  obtain ⟨f, fd, ps, iC, tI, F, b⟩ := I.fn
  exact ps_raise hc tk (pmk_er I.er iC tI F (hr.mono hk) b .nil C8.pass0 hg I.g ha hd h1 h2)
/-- raise C() -/
theorem ps_rai0 (I : Ini X.prog X.w X.K X.mg X.base k c sp) (hc : X.calm = true) (hr : Room j X.A) (hk : k + 1 ≤ j) (hg : Gl X c) (tk : Takes X W) (hd : (c == ("__debug__" : Str)) = false := by decide) :
    PS X (.Raise (some (.Call (.Name c p) [] [] pos)) none pos2) (fun _ σ H => tMkO (He.ga X.K c) sp [] tNil σ H fun cls d H' => W cls d σ H') := by
  obtain ⟨f, fd, ps, iC, tI, F, b⟩ := I.fn
  exact ps_raise hc tk (pmk_er0 I.er iC tI F (hr.mono hk) b .nil C8.pass0 hg I.g hd)
/-- C.m(e, ..), C a class of the text -/
theorem pe_clm {pl : Sem Bool} (M : Clm X.prog X.w X.K X.mg X.base k c m sp) (hr : Room j X.A) (hk : k ≤ j) (hg : Gl X c) (ha : PA X (e :: es) t) (hd : (c == ("__debug__" : Str)) = false := by decide)
    (h1 : Plain1 X e es := by rfl) (h2 : PlainR X es pos := by rfl)
    (ht : DotRun X c m (e :: es) pl p1 p2 pos := by rfl) :
    PE X (.Call (.Attribute (.Name c p1) m p2) (e :: es) [] pos) (tCall sp [] C8.E0 t) := by
  obtain ⟨f, fd, ps, cl, kp, F, b⟩ := M.fn
  exact pe_clf hg M.g cl F (hr.mono hk) kp b C8.pass0 ha hd h1 h2 ht
end
end L2
namespace Nt
open PySem L2 Evl
/-! ### what a raise tells -/
/-- an error of the class c with these fields, told from the heap H on -/
def RaiseK (K : PySem.W.Frag) (c : PySem.Str) (fs : List (PySem.Str × V)) (H : Hp) (E : XK) : Prop := ∀ d H', Ex H H' → H' d = some (.xd fs) → E (.ref (He.ga K c)) (some d) H'
theorem RaiseK.mono {K : PySem.W.Frag} {c : PySem.Str} {fs : List (PySem.Str × V)} {H H' : Hp} {E : XK} (e : Ex H H') (h : RaiseK K c fs H E) : RaiseK K c fs H' E := fun d H2 a i => h d H2 (e.trans a) i
/-- an __init__ of an error class: the new error's fields -/
def spE (K : PySem.W.Frag) (c : PySem.Str) (args : List V → Option (List (PySem.Str × V))) : Sp := fun vs H Q _ => ∃ (a : Addr) (ws : List V) (fs : List (PySem.Str × V)), vs = .ref a :: ws ∧ args ws = some fs ∧ ErC K (He.ga K c) ∧ H a = some (exo a (He.ga K c) none) ∧
  ∀ dx H', H dx = none → dx ≠ a → (∀ b o, b ≠ a → H b = some o → H' b = some o) → H' a = some (exo a (He.ga K c) (some dx)) → H' dx = some (exd dx fs) → Q .non H'
theorem s_raise {K : PySem.W.Frag} {σ : L2.St} {H : Hp} {ta : TA} {c : PySem.Str} {args : List V → Option (List (PySem.Str × V))} {ws : List V} {fs : List (PySem.Str × V)} {E : XK} (T : ErC K (He.ga K c)) (h : EvA ta σ H ws) (hz : ws.length ≤ 1000) (ha : args ws = some fs) (k : RaiseK K c fs H E) :
    tMkO (He.ga K c) (spE K c args) [] ta σ H (fun cls d H' => E cls d H') := h H (Ex.refl H) _ fun H1 e1 => ⟨hz, fun a hn => ⟨a, ws, fs, by rw [List.append_nil], ha, T, upd_same, fun dx H' hd ne kp h1 h2 => by
    have hd1 : H1 dx = none := by rw [upd_ne ne] at hd; exact hd
    refine ⟨rfl, dx, fs, h1, h2, hd1, k dx _ ?_ upd_same⟩
    intro b o hb
    have hb1 := e1 _ _ hb
    have nd : b ≠ dx := ne_of_none hb1 hd1
    have na : b ≠ a := ne_of_none hb1 hn
    rw [upd_ne nd]
    show (if b = a then none else H' b) = some o
    rw [if_neg na]
    exact kp b o na (by rw [upd_ne na]; exact hb1)⟩⟩
end Nt

set_option maxHeartbeats 4000000
namespace Nt
open PySem PySem.Spec PyProof.Rows L2 Evl
/-! ### data of which nothing is an object of the class at C -/
inductive NoC (K : PySem.W.Frag) (C : Addr) : D → Prop
  | v (x : V) : NoC K C (.v x)
  | lst {ds : List D} : (∀ d ∈ ds, NoC K C d) → NoC K C (.lst ds)
  | ins {c : PySem.Str} {ns : List PySem.Str} {ds : List D} : He.ga K c ≠ C → (∀ d ∈ ds, NoC K C d) → NoC K C (.ins c ns ds)
section
variable {K : PySem.W.Frag} {H H' : Hp} {x : V} {d : D} {xs : List V} {ds : List D} {a dx C : Addr} {fs : List (PySem.Str × V)}
theorem Is.del (h : Is K H x d) (ha : H a = some (.ins C dx fs)) (n : NoC K C d) : Is K (del H a) x d := by
  refine Is.rec (motive_1 := fun x d _ => NoC K C d → Is K (L2.del H a) x d) (motive_2 := fun xs ds _ => (∀ d ∈ ds, NoC K C d) → IsL K (L2.del H a) xs ds)
    (fun x _ => .v x) (fun {b xs ds} hb _ ih n => ?_) (fun {b dx' c ns xs ds} hb hl _ ih n => ?_) (fun _ => .nil) (fun {x d xs ds} _ _ i1 i2 n => .cons (i1 (n _ List.mem_cons_self)) (i2 fun d hd => n d (List.mem_cons_of_mem _ hd))) h n
  · cases n with
    | lst n =>
      have ne : b ≠ a := fun z => by rw [z, ha] at hb; cases hb
      exact .lst (by rw [del_ne ne]; exact hb) (ih n)
  · cases n with
    | ins nc n =>
      have ne : b ≠ a := fun z => by
        rw [z, ha] at hb
        injection hb with hb
        injection hb with h1
        exact nc h1.symm
      exact .ins (by rw [del_ne ne]; exact hb) hl (ih n)
theorem IsL.del (h : IsL K H xs ds) (ha : H a = some (.ins C dx fs)) (n : ∀ d ∈ ds, NoC K C d) : IsL K (L2.del H a) xs ds := by
  induction ds generalizing xs with
  | nil =>
    have := h.z0
    subst this
    exact .nil
  | cons d ds ih =>
    obtain ⟨x, r, rfl, h1, h2⟩ := h.c1
    exact .cons (h1.del ha (n d List.mem_cons_self)) (ih h2 fun e he => n e (List.mem_cons_of_mem _ he))
theorem ex_del (H : Hp) (a : Addr) : Ex (L2.del H a) H := fun b o e => by
  by_cases z : b = a
  · rw [z, del_same] at e; cases e
  · rw [del_ne z] at e; exact e
theorem ex_to_del {Hb : Hp} (e : Ex Hb H) (n : Hb a = none) : Ex Hb (L2.del H a) := fun b o h => by
  rw [del_ne (ne_of_none h n)]
  exact e _ _ h
theorem del_upd {o : HO} : L2.del (upd H a o) a = L2.del H a := by
  funext b
  by_cases z : b = a
  · rw [z, del_same, del_same]
  · rw [del_ne z, del_ne z, upd_ne z]
end
end Nt

set_option maxHeartbeats 4000000
namespace Nt
open PySem PySem.Spec PyProof.Rows L2 Evl
open C8 (Cal Mak Met pe_c pe_mk pe_mt pe_mt0 pe_gc)
/-! ### the text by places -/
def top (i : Nat) : Stmt := PySem.Challenge.pw_notchplan_s01_answers.main.body.getD i (.Pass ⟨0, 0, 0, 0⟩)
abbrev s_with_field : Stmt := top 12
abbrev s_with_code : Stmt := top 13
abbrev s_without_field : Stmt := top 14
abbrev s_with_asked : Stmt := top 15
abbrev s_with_only_code : Stmt := top 16
abbrev s_table : Stmt := top 18
abbrev s_last_row : Stmt := top 19
abbrev s_row_ahead : Stmt := top 20
abbrev s_costs_with : Stmt := top 21
abbrev s_least_of : Stmt := top 22
abbrev s_curve : Stmt := top 23
abbrev s_least_cost : Stmt := top 24
abbrev s_least_plan : Stmt := top 25
abbrev s_least_plan_with : Stmt := top 26
abbrev s_least_count : Stmt := top 27
abbrev s_counts_ahead : Stmt := top 28
abbrev s_count_with : Stmt := top 29
abbrev s_is_plan : Stmt := top 30
abbrev s_plan_holes : Stmt := top 31
abbrev s_plan_cost : Stmt := top 32
abbrev s_is_labels : Stmt := top 34
abbrev s_label_rows : Stmt := top 35
abbrev s_greatest_labels : Stmt := top 36
abbrev s_first_wrong_label : Stmt := top 37
abbrev s_bound : Stmt := top 38
abbrev s_least_priced : Stmt := top 39
abbrev s_best_price : Stmt := top 40
abbrev s_signs_of : Stmt := top 56
abbrev s_words_of : Stmt := top 57
abbrev s_words_of_line : Stmt := top 58
abbrev s_read_file : Stmt := top 60
abbrev s_read_line : Stmt := top 61
abbrev s_take_line : Stmt := top 62
abbrev s_take_field : Stmt := top 63
abbrev s_take_code : Stmt := top 64
abbrev s_take_word : Stmt := top 65
abbrev s_take_name : Stmt := top 66
abbrev s_take_number : Stmt := top 67
abbrev s_is_name : Stmt := top 68
abbrev s_is_number : Stmt := top 69
abbrev s_costs_beside : Stmt := top 71
abbrev s_askings : Stmt := top 72
abbrev s_least_asked : Stmt := top 73
abbrev s_greatest_asked : Stmt := top 74
abbrev s_idle_codes : Stmt := top 75
abbrev s_is_idle : Stmt := top 76
abbrev s_outdoes : Stmt := top 77
abbrev s_text_of : Stmt := top 79
abbrev s_field_line : Stmt := top 80
abbrev s_code_line : Stmt := top 81
abbrev s_refuse_wrong_bytes : Stmt := top 84
abbrev s_refuse_out_of_range : Stmt := top 85
abbrev s_refuse_wrong_field : Stmt := top 86
abbrev s_refuse_wrong_code : Stmt := top 87
abbrev s_plan_told : Stmt := top 88
abbrev s_costs_told : Stmt := top 89
abbrev s_greatest_divisor : Stmt := top 90
abbrev s_answer_clear : Stmt := top 91
abbrev s_answer_file : Stmt := top 92
abbrev s_answer_look : Stmt := top 93
abbrev s_answer_text : Stmt := top 94
abbrev s_answer_put : Stmt := top 95
abbrev s_answer_drop : Stmt := top 96
abbrev s_answer_told : Stmt := top 97
abbrev s_answer_least : Stmt := top 98
abbrev s_answer_curve : Stmt := top 99
abbrev s_answer_count : Stmt := top 100
abbrev s_answer_check : Stmt := top 101
abbrev s_answer_labels : Stmt := top 102
abbrev s_answer_accept : Stmt := top 103
abbrev s_answer_bound : Stmt := top 104
abbrev s_answer_price : Stmt := top 105
abbrev s_answer_with_code : Stmt := top 106
abbrev s_answer_without : Stmt := top 107
abbrev s_answer_range : Stmt := top 108
abbrev s_answer_ask : Stmt := top 109
abbrev s_answer_holes : Stmt := top 110
abbrev s_answer_mean : Stmt := top 111
abbrev s_answer_idle : Stmt := top 112
abbrev s_take_given : Stmt := top 116
abbrev s_answer_to : Stmt := top 117
abbrev s_answers : Stmt := top 118
abbrev s_Code_init : Stmt := inClass (top 9) 0
abbrev s_Field_init : Stmt := inClass (top 10) 0
abbrev s_Field_cost_in_all : Stmt := inClass (top 10) 1
abbrev s_CardFile_init : Stmt := inClass (top 11) 0
abbrev s_CardFile_become : Stmt := inClass (top 11) 1
abbrev s_Refusal_init : Stmt := inClass (top 42) 0
abbrev s_NotBytes_init : Stmt := inClass (top 43) 0
abbrev s_NotInRange_init : Stmt := inClass (top 44) 0
abbrev s_NotAPlan_init : Stmt := inClass (top 45) 0
abbrev s_NotLabels_init : Stmt := inClass (top 46) 0
abbrev s_NotThere_init : Stmt := inClass (top 47) 0
abbrev s_NeverAsked_init : Stmt := inClass (top 48) 0
abbrev s_Fault_init : Stmt := inClass (top 49) 0
abbrev s_Word_init : Stmt := inClass (top 54) 0
abbrev s_Words_init : Stmt := inClass (top 55) 0
abbrev s_Words_ended : Stmt := inClass (top 55) 1
abbrev s_Words_ahead : Stmt := inClass (top 55) 2
abbrev s_Words_where : Stmt := inClass (top 55) 3
abbrev s_Words_move_on : Stmt := inClass (top 55) 4
abbrev s_Handed_init : Stmt := inClass (top 83) 0
abbrev s_Handed_ended : Stmt := inClass (top 83) 1
abbrev s_Handed_take : Stmt := inClass (top 83) 2
abbrev s_Handed_take_list : Stmt := inClass (top 83) 3
abbrev FnP (K : PySem.W.Frag) (x q : PySem.Str) (m : Option PySem.Str) (st : Stmt) (fd : FuncData) : Prop := FunD K x q (defArgs st) (defBody st) (defScope st) [] [] (He.fAd K (match m with | none => (x, none) | some c => (c, some x))) fd
/-! ### what the top leaves -/
/-- how many whole numbers, lists a call has; its def -/
def numsL : List (Int × Int) := [(5, 1), (13, 1), (15, 2), (16, 1), (17, 2), (18, 2), (19, 1), (21, 1)]
def lstsL : List (Int × Int) := [(1, 1), (2, 1), (4, 1), (10, 1), (12, 1)]
def callL : List (Int × PySem.Str) := [(0, "answer_clear"), (1, "answer_file"), (2, "answer_look"), (3, "answer_text"), (4, "answer_put"), (5, "answer_drop"), (6, "answer_told"), (7, "answer_least"), (8, "answer_curve"), (9, "answer_count"), (10, "answer_check"), (11, "answer_labels"), (12, "answer_accept"), (13, "answer_bound"), (14, "answer_price"), (15, "answer_with_code"), (16, "answer_without"), (17, "answer_range"), (18, "answer_ask"), (19, "answer_holes"), (20, "answer_mean"), (21, "answer_idle")]
def iTabV (l : List (Int × Int)) (n : Int) : Option V := (l.lookup n).map V.int
def fTabV (K : PySem.W.Frag) (l : List (Int × PySem.Str)) (n : Int) : Option V := (l.lookup n).map fun x => V.ref (He.ga K x)
/-- what the written part says of an own error class -/
structure ErrF (K : PySem.W.Frag) (c : PySem.Str) : Prop where
  er : ErC K (He.ga K c)
  xf : XfC K (He.ga K c)
  ini : PySem.W.findIn K (.ref (He.ga K c)) "__init__" = some (some (.ref (He.fAd K (c, some "__init__"))))
  tyI : PySem.W.typeIn K (.ref (He.fAd K (c, some "__init__"))) = some (.type "function")
  num : PySem.W.findIn K (.ref (He.ga K c)) "number" = some none
  exm : PySem.W.exmOne K (.ref (He.ga K c)) (.ref (He.ga K "Refusal")) = some true
structure Txt (K : PySem.W.Frag) (mg : PySem.Str → Option Value) : Prop where
  f_len : mg "len" = none
  f_range : mg "range" = none
  f_min : mg "min" = none
  f_max : mg "max" = none
  f_sum : mg "sum" = none
  f_all : mg "all" = none
  f_any : mg "any" = none
  f_zip : mg "zip" = none
  f_enumerate : mg "enumerate" = none
  f_reversed : mg "reversed" = none
  f_list : mg "list" = none
  f_ord : mg "ord" = none
  f_str : mg "str" = none
  f_int : mg "int" = none
  f_abs : mg "abs" = none
  f_Exception : mg "Exception" = none
  c_MOST_HOLES : ∃ u, mg "MOST_HOLES" = some u ∧ RelV (.int 60) u
  c_MOST_FIELDS : ∃ u, mg "MOST_FIELDS" = some u ∧ RelV (.int 10) u
  c_MOST_CODES : ∃ u, mg "MOST_CODES" = some u ∧ RelV (.int 8) u
  c_MOST_ASKED : ∃ u, mg "MOST_ASKED" = some u ∧ RelV (.int 1000) u
  c_MOST_COST : ∃ u, mg "MOST_COST" = some u ∧ RelV (.int 1000000) u
  c_MOST_LETTERS : ∃ u, mg "MOST_LETTERS" = some u ∧ RelV (.int 12) u
  c_MOST_PRICE : ∃ u, mg "MOST_PRICE" = some u ∧ RelV (.int 1000000000) u
  c_MOST_LABEL : ∃ u, mg "MOST_LABEL" = some u ∧ RelV (.int 1000000000000) u
  c_LINE_END : ∃ u, mg "LINE_END" = some u ∧ RelV (.str "\n") u
  c_SIGNS : ∃ u, mg "SIGNS" = some u ∧ RelV (.str "\n 0123456789abcdefghijklmnopqrstuvwxyz") u
  c_OTHER_SIGN : ∃ u, mg "OTHER_SIGN" = some u ∧ RelV (.str "?") u
  a_Code_name : At K "Code" "name"
  a_Code_holes : At K "Code" "holes"
  a_Code_cost : At K "Code" "cost"
  a_Field_name : At K "Field" "name"
  a_Field_asked : At K "Field" "asked"
  a_Field_codes : At K "Field" "codes"
  a_CardFile_holes : At K "CardFile" "holes"
  a_CardFile_fields : At K "CardFile" "fields"
  a_Word_place : At K "Word" "place"
  a_Word_signs : At K "Word" "signs"
  a_Words_words : At K "Words" "words"
  a_Words_length : At K "Words" "length"
  a_Words_taken : At K "Words" "taken"
  a_Handed_numbers : At K "Handed" "numbers"
  a_Handed_taken : At K "Handed" "taken"
  d_with_field : (∃ fd, FnP K "with_field" "with_field" none s_with_field fd) ∧ mg "with_field" = some (.ref (He.ga K "with_field"))
  d_with_code : (∃ fd, FnP K "with_code" "with_code" none s_with_code fd) ∧ mg "with_code" = some (.ref (He.ga K "with_code"))
  d_without_field : (∃ fd, FnP K "without_field" "without_field" none s_without_field fd) ∧ mg "without_field" = some (.ref (He.ga K "without_field"))
  d_with_asked : (∃ fd, FnP K "with_asked" "with_asked" none s_with_asked fd) ∧ mg "with_asked" = some (.ref (He.ga K "with_asked"))
  d_with_only_code : (∃ fd, FnP K "with_only_code" "with_only_code" none s_with_only_code fd) ∧ mg "with_only_code" = some (.ref (He.ga K "with_only_code"))
  d_table : (∃ fd, FnP K "table" "table" none s_table fd) ∧ mg "table" = some (.ref (He.ga K "table"))
  d_last_row : (∃ fd, FnP K "last_row" "last_row" none s_last_row fd) ∧ mg "last_row" = some (.ref (He.ga K "last_row"))
  d_row_ahead : (∃ fd, FnP K "row_ahead" "row_ahead" none s_row_ahead fd) ∧ mg "row_ahead" = some (.ref (He.ga K "row_ahead"))
  d_costs_with : (∃ fd, FnP K "costs_with" "costs_with" none s_costs_with fd) ∧ mg "costs_with" = some (.ref (He.ga K "costs_with"))
  d_least_of : (∃ fd, FnP K "least_of" "least_of" none s_least_of fd) ∧ mg "least_of" = some (.ref (He.ga K "least_of"))
  d_curve : (∃ fd, FnP K "curve" "curve" none s_curve fd) ∧ mg "curve" = some (.ref (He.ga K "curve"))
  d_least_cost : (∃ fd, FnP K "least_cost" "least_cost" none s_least_cost fd) ∧ mg "least_cost" = some (.ref (He.ga K "least_cost"))
  d_least_plan : (∃ fd, FnP K "least_plan" "least_plan" none s_least_plan fd) ∧ mg "least_plan" = some (.ref (He.ga K "least_plan"))
  d_least_plan_with : (∃ fd, FnP K "least_plan_with" "least_plan_with" none s_least_plan_with fd) ∧ mg "least_plan_with" = some (.ref (He.ga K "least_plan_with"))
  d_least_count : (∃ fd, FnP K "least_count" "least_count" none s_least_count fd) ∧ mg "least_count" = some (.ref (He.ga K "least_count"))
  d_counts_ahead : (∃ fd, FnP K "counts_ahead" "counts_ahead" none s_counts_ahead fd) ∧ mg "counts_ahead" = some (.ref (He.ga K "counts_ahead"))
  d_count_with : (∃ fd, FnP K "count_with" "count_with" none s_count_with fd) ∧ mg "count_with" = some (.ref (He.ga K "count_with"))
  d_is_plan : (∃ fd, FnP K "is_plan" "is_plan" none s_is_plan fd) ∧ mg "is_plan" = some (.ref (He.ga K "is_plan"))
  d_plan_holes : (∃ fd, FnP K "plan_holes" "plan_holes" none s_plan_holes fd) ∧ mg "plan_holes" = some (.ref (He.ga K "plan_holes"))
  d_plan_cost : (∃ fd, FnP K "plan_cost" "plan_cost" none s_plan_cost fd) ∧ mg "plan_cost" = some (.ref (He.ga K "plan_cost"))
  d_is_labels : (∃ fd, FnP K "is_labels" "is_labels" none s_is_labels fd) ∧ mg "is_labels" = some (.ref (He.ga K "is_labels"))
  d_label_rows : (∃ fd, FnP K "label_rows" "label_rows" none s_label_rows fd) ∧ mg "label_rows" = some (.ref (He.ga K "label_rows"))
  d_greatest_labels : (∃ fd, FnP K "greatest_labels" "greatest_labels" none s_greatest_labels fd) ∧ mg "greatest_labels" = some (.ref (He.ga K "greatest_labels"))
  d_first_wrong_label : (∃ fd, FnP K "first_wrong_label" "first_wrong_label" none s_first_wrong_label fd) ∧ mg "first_wrong_label" = some (.ref (He.ga K "first_wrong_label"))
  d_bound : (∃ fd, FnP K "bound" "bound" none s_bound fd) ∧ mg "bound" = some (.ref (He.ga K "bound"))
  d_least_priced : (∃ fd, FnP K "least_priced" "least_priced" none s_least_priced fd) ∧ mg "least_priced" = some (.ref (He.ga K "least_priced"))
  d_best_price : (∃ fd, FnP K "best_price" "best_price" none s_best_price fd) ∧ mg "best_price" = some (.ref (He.ga K "best_price"))
  d_signs_of : (∃ fd, FnP K "signs_of" "signs_of" none s_signs_of fd) ∧ mg "signs_of" = some (.ref (He.ga K "signs_of"))
  d_words_of : (∃ fd, FnP K "words_of" "words_of" none s_words_of fd) ∧ mg "words_of" = some (.ref (He.ga K "words_of"))
  d_words_of_line : (∃ fd, FnP K "words_of_line" "words_of_line" none s_words_of_line fd) ∧ mg "words_of_line" = some (.ref (He.ga K "words_of_line"))
  d_read_file : (∃ fd, FnP K "read_file" "read_file" none s_read_file fd) ∧ mg "read_file" = some (.ref (He.ga K "read_file"))
  d_read_line : (∃ fd, FnP K "read_line" "read_line" none s_read_line fd) ∧ mg "read_line" = some (.ref (He.ga K "read_line"))
  d_take_line : (∃ fd, FnP K "take_line" "take_line" none s_take_line fd) ∧ mg "take_line" = some (.ref (He.ga K "take_line"))
  d_take_field : (∃ fd, FnP K "take_field" "take_field" none s_take_field fd) ∧ mg "take_field" = some (.ref (He.ga K "take_field"))
  d_take_code : (∃ fd, FnP K "take_code" "take_code" none s_take_code fd) ∧ mg "take_code" = some (.ref (He.ga K "take_code"))
  d_take_word : (∃ fd, FnP K "take_word" "take_word" none s_take_word fd) ∧ mg "take_word" = some (.ref (He.ga K "take_word"))
  d_take_name : (∃ fd, FnP K "take_name" "take_name" none s_take_name fd) ∧ mg "take_name" = some (.ref (He.ga K "take_name"))
  d_take_number : (∃ fd, FnP K "take_number" "take_number" none s_take_number fd) ∧ mg "take_number" = some (.ref (He.ga K "take_number"))
  d_is_name : (∃ fd, FnP K "is_name" "is_name" none s_is_name fd) ∧ mg "is_name" = some (.ref (He.ga K "is_name"))
  d_is_number : (∃ fd, FnP K "is_number" "is_number" none s_is_number fd) ∧ mg "is_number" = some (.ref (He.ga K "is_number"))
  d_costs_beside : (∃ fd, FnP K "costs_beside" "costs_beside" none s_costs_beside fd) ∧ mg "costs_beside" = some (.ref (He.ga K "costs_beside"))
  d_askings : (∃ fd, FnP K "askings" "askings" none s_askings fd) ∧ mg "askings" = some (.ref (He.ga K "askings"))
  d_least_asked : (∃ fd, FnP K "least_asked" "least_asked" none s_least_asked fd) ∧ mg "least_asked" = some (.ref (He.ga K "least_asked"))
  d_greatest_asked : (∃ fd, FnP K "greatest_asked" "greatest_asked" none s_greatest_asked fd) ∧ mg "greatest_asked" = some (.ref (He.ga K "greatest_asked"))
  d_idle_codes : (∃ fd, FnP K "idle_codes" "idle_codes" none s_idle_codes fd) ∧ mg "idle_codes" = some (.ref (He.ga K "idle_codes"))
  d_is_idle : (∃ fd, FnP K "is_idle" "is_idle" none s_is_idle fd) ∧ mg "is_idle" = some (.ref (He.ga K "is_idle"))
  d_outdoes : (∃ fd, FnP K "outdoes" "outdoes" none s_outdoes fd) ∧ mg "outdoes" = some (.ref (He.ga K "outdoes"))
  d_text_of : (∃ fd, FnP K "text_of" "text_of" none s_text_of fd) ∧ mg "text_of" = some (.ref (He.ga K "text_of"))
  d_field_line : (∃ fd, FnP K "field_line" "field_line" none s_field_line fd) ∧ mg "field_line" = some (.ref (He.ga K "field_line"))
  d_code_line : (∃ fd, FnP K "code_line" "code_line" none s_code_line fd) ∧ mg "code_line" = some (.ref (He.ga K "code_line"))
  d_refuse_wrong_bytes : (∃ fd, FnP K "refuse_wrong_bytes" "refuse_wrong_bytes" none s_refuse_wrong_bytes fd) ∧ mg "refuse_wrong_bytes" = some (.ref (He.ga K "refuse_wrong_bytes"))
  d_refuse_out_of_range : (∃ fd, FnP K "refuse_out_of_range" "refuse_out_of_range" none s_refuse_out_of_range fd) ∧ mg "refuse_out_of_range" = some (.ref (He.ga K "refuse_out_of_range"))
  d_refuse_wrong_field : (∃ fd, FnP K "refuse_wrong_field" "refuse_wrong_field" none s_refuse_wrong_field fd) ∧ mg "refuse_wrong_field" = some (.ref (He.ga K "refuse_wrong_field"))
  d_refuse_wrong_code : (∃ fd, FnP K "refuse_wrong_code" "refuse_wrong_code" none s_refuse_wrong_code fd) ∧ mg "refuse_wrong_code" = some (.ref (He.ga K "refuse_wrong_code"))
  d_plan_told : (∃ fd, FnP K "plan_told" "plan_told" none s_plan_told fd) ∧ mg "plan_told" = some (.ref (He.ga K "plan_told"))
  d_costs_told : (∃ fd, FnP K "costs_told" "costs_told" none s_costs_told fd) ∧ mg "costs_told" = some (.ref (He.ga K "costs_told"))
  d_greatest_divisor : (∃ fd, FnP K "greatest_divisor" "greatest_divisor" none s_greatest_divisor fd) ∧ mg "greatest_divisor" = some (.ref (He.ga K "greatest_divisor"))
  d_answer_clear : (∃ fd, FnP K "answer_clear" "answer_clear" none s_answer_clear fd) ∧ mg "answer_clear" = some (.ref (He.ga K "answer_clear"))
  d_answer_file : (∃ fd, FnP K "answer_file" "answer_file" none s_answer_file fd) ∧ mg "answer_file" = some (.ref (He.ga K "answer_file"))
  d_answer_look : (∃ fd, FnP K "answer_look" "answer_look" none s_answer_look fd) ∧ mg "answer_look" = some (.ref (He.ga K "answer_look"))
  d_answer_text : (∃ fd, FnP K "answer_text" "answer_text" none s_answer_text fd) ∧ mg "answer_text" = some (.ref (He.ga K "answer_text"))
  d_answer_put : (∃ fd, FnP K "answer_put" "answer_put" none s_answer_put fd) ∧ mg "answer_put" = some (.ref (He.ga K "answer_put"))
  d_answer_drop : (∃ fd, FnP K "answer_drop" "answer_drop" none s_answer_drop fd) ∧ mg "answer_drop" = some (.ref (He.ga K "answer_drop"))
  d_answer_told : (∃ fd, FnP K "answer_told" "answer_told" none s_answer_told fd) ∧ mg "answer_told" = some (.ref (He.ga K "answer_told"))
  d_answer_least : (∃ fd, FnP K "answer_least" "answer_least" none s_answer_least fd) ∧ mg "answer_least" = some (.ref (He.ga K "answer_least"))
  d_answer_curve : (∃ fd, FnP K "answer_curve" "answer_curve" none s_answer_curve fd) ∧ mg "answer_curve" = some (.ref (He.ga K "answer_curve"))
  d_answer_count : (∃ fd, FnP K "answer_count" "answer_count" none s_answer_count fd) ∧ mg "answer_count" = some (.ref (He.ga K "answer_count"))
  d_answer_check : (∃ fd, FnP K "answer_check" "answer_check" none s_answer_check fd) ∧ mg "answer_check" = some (.ref (He.ga K "answer_check"))
  d_answer_labels : (∃ fd, FnP K "answer_labels" "answer_labels" none s_answer_labels fd) ∧ mg "answer_labels" = some (.ref (He.ga K "answer_labels"))
  d_answer_accept : (∃ fd, FnP K "answer_accept" "answer_accept" none s_answer_accept fd) ∧ mg "answer_accept" = some (.ref (He.ga K "answer_accept"))
  d_answer_bound : (∃ fd, FnP K "answer_bound" "answer_bound" none s_answer_bound fd) ∧ mg "answer_bound" = some (.ref (He.ga K "answer_bound"))
  d_answer_price : (∃ fd, FnP K "answer_price" "answer_price" none s_answer_price fd) ∧ mg "answer_price" = some (.ref (He.ga K "answer_price"))
  d_answer_with_code : (∃ fd, FnP K "answer_with_code" "answer_with_code" none s_answer_with_code fd) ∧ mg "answer_with_code" = some (.ref (He.ga K "answer_with_code"))
  d_answer_without : (∃ fd, FnP K "answer_without" "answer_without" none s_answer_without fd) ∧ mg "answer_without" = some (.ref (He.ga K "answer_without"))
  d_answer_range : (∃ fd, FnP K "answer_range" "answer_range" none s_answer_range fd) ∧ mg "answer_range" = some (.ref (He.ga K "answer_range"))
  d_answer_ask : (∃ fd, FnP K "answer_ask" "answer_ask" none s_answer_ask fd) ∧ mg "answer_ask" = some (.ref (He.ga K "answer_ask"))
  d_answer_holes : (∃ fd, FnP K "answer_holes" "answer_holes" none s_answer_holes fd) ∧ mg "answer_holes" = some (.ref (He.ga K "answer_holes"))
  d_answer_mean : (∃ fd, FnP K "answer_mean" "answer_mean" none s_answer_mean fd) ∧ mg "answer_mean" = some (.ref (He.ga K "answer_mean"))
  d_answer_idle : (∃ fd, FnP K "answer_idle" "answer_idle" none s_answer_idle fd) ∧ mg "answer_idle" = some (.ref (He.ga K "answer_idle"))
  d_take_given : (∃ fd, FnP K "take_given" "take_given" none s_take_given fd) ∧ mg "take_given" = some (.ref (He.ga K "take_given"))
  d_answer_to : (∃ fd, FnP K "answer_to" "answer_to" none s_answer_to fd) ∧ mg "answer_to" = some (.ref (He.ga K "answer_to"))
  d_answers : (∃ fd, FnP K "answers" "answers" none s_answers fd) ∧ mg "answers" = some (.ref (He.ga K "answers"))
  k_Code : Cls K (He.ga K "Code") ∧ Mk K (He.ga K "Code") (He.fAd K ("Code", some "__init__")) ∧ mg "Code" = some (.ref (He.ga K "Code"))
  i_Code : ∃ fd, FnP K "__init__" "Code.__init__" (some "Code") s_Code_init fd
  k_Field : Cls K (He.ga K "Field") ∧ Mk K (He.ga K "Field") (He.fAd K ("Field", some "__init__")) ∧ mg "Field" = some (.ref (He.ga K "Field"))
  i_Field : ∃ fd, FnP K "__init__" "Field.__init__" (some "Field") s_Field_init fd
  k_CardFile : Cls K (He.ga K "CardFile") ∧ Mk K (He.ga K "CardFile") (He.fAd K ("CardFile", some "__init__")) ∧ mg "CardFile" = some (.ref (He.ga K "CardFile"))
  i_CardFile : ∃ fd, FnP K "__init__" "CardFile.__init__" (some "CardFile") s_CardFile_init fd
  k_Word : Cls K (He.ga K "Word") ∧ Mk K (He.ga K "Word") (He.fAd K ("Word", some "__init__")) ∧ mg "Word" = some (.ref (He.ga K "Word"))
  i_Word : ∃ fd, FnP K "__init__" "Word.__init__" (some "Word") s_Word_init fd
  k_Words : Cls K (He.ga K "Words") ∧ Mk K (He.ga K "Words") (He.fAd K ("Words", some "__init__")) ∧ mg "Words" = some (.ref (He.ga K "Words"))
  i_Words : ∃ fd, FnP K "__init__" "Words.__init__" (some "Words") s_Words_init fd
  k_Handed : Cls K (He.ga K "Handed") ∧ Mk K (He.ga K "Handed") (He.fAd K ("Handed", some "__init__")) ∧ mg "Handed" = some (.ref (He.ga K "Handed"))
  i_Handed : ∃ fd, FnP K "__init__" "Handed.__init__" (some "Handed") s_Handed_init fd
  h_Field_cost_in_all : (∃ fd, FnP K "cost_in_all" "Field.cost_in_all" (some "Field") s_Field_cost_in_all fd) ∧ Meth K (He.ga K "Field") "cost_in_all" (He.fAd K ("Field", some "cost_in_all"))
  h_CardFile_become : (∃ fd, FnP K "become" "CardFile.become" (some "CardFile") s_CardFile_become fd) ∧ Meth K (He.ga K "CardFile") "become" (He.fAd K ("CardFile", some "become"))
  h_Words_ended : (∃ fd, FnP K "ended" "Words.ended" (some "Words") s_Words_ended fd) ∧ Meth K (He.ga K "Words") "ended" (He.fAd K ("Words", some "ended"))
  h_Words_ahead : (∃ fd, FnP K "ahead" "Words.ahead" (some "Words") s_Words_ahead fd) ∧ Meth K (He.ga K "Words") "ahead" (He.fAd K ("Words", some "ahead"))
  h_Words_where : (∃ fd, FnP K "where" "Words.where" (some "Words") s_Words_where fd) ∧ Meth K (He.ga K "Words") "where" (He.fAd K ("Words", some "where"))
  h_Words_move_on : (∃ fd, FnP K "move_on" "Words.move_on" (some "Words") s_Words_move_on fd) ∧ Meth K (He.ga K "Words") "move_on" (He.fAd K ("Words", some "move_on"))
  h_Handed_ended : (∃ fd, FnP K "ended" "Handed.ended" (some "Handed") s_Handed_ended fd) ∧ Meth K (He.ga K "Handed") "ended" (He.fAd K ("Handed", some "ended"))
  h_Handed_take : (∃ fd, FnP K "take" "Handed.take" (some "Handed") s_Handed_take fd) ∧ Meth K (He.ga K "Handed") "take" (He.fAd K ("Handed", some "take"))
  h_Handed_take_list : (∃ fd, FnP K "take_list" "Handed.take_list" (some "Handed") s_Handed_take_list fd) ∧ Meth K (He.ga K "Handed") "take_list" (He.fAd K ("Handed", some "take_list"))
  e_Refusal : ErrF K "Refusal" ∧ mg "Refusal" = some (.ref (He.ga K "Refusal"))
  i_Refusal : ∃ fd, FnP K "__init__" "Refusal.__init__" (some "Refusal") s_Refusal_init fd
  e_NotBytes : ErrF K "NotBytes" ∧ mg "NotBytes" = some (.ref (He.ga K "NotBytes"))
  i_NotBytes : ∃ fd, FnP K "__init__" "NotBytes.__init__" (some "NotBytes") s_NotBytes_init fd
  e_NotInRange : ErrF K "NotInRange" ∧ mg "NotInRange" = some (.ref (He.ga K "NotInRange"))
  i_NotInRange : ∃ fd, FnP K "__init__" "NotInRange.__init__" (some "NotInRange") s_NotInRange_init fd
  e_NotAPlan : ErrF K "NotAPlan" ∧ mg "NotAPlan" = some (.ref (He.ga K "NotAPlan"))
  i_NotAPlan : ∃ fd, FnP K "__init__" "NotAPlan.__init__" (some "NotAPlan") s_NotAPlan_init fd
  e_NotLabels : ErrF K "NotLabels" ∧ mg "NotLabels" = some (.ref (He.ga K "NotLabels"))
  i_NotLabels : ∃ fd, FnP K "__init__" "NotLabels.__init__" (some "NotLabels") s_NotLabels_init fd
  e_NotThere : ErrF K "NotThere" ∧ mg "NotThere" = some (.ref (He.ga K "NotThere"))
  i_NotThere : ∃ fd, FnP K "__init__" "NotThere.__init__" (some "NotThere") s_NotThere_init fd
  e_NeverAsked : ErrF K "NeverAsked" ∧ mg "NeverAsked" = some (.ref (He.ga K "NeverAsked"))
  i_NeverAsked : ∃ fd, FnP K "__init__" "NeverAsked.__init__" (some "NeverAsked") s_NeverAsked_init fd
  e_Fault : ErrF K "Fault" ∧ mg "Fault" = some (.ref (He.ga K "Fault"))
  i_Fault : ∃ fd, FnP K "__init__" "Fault.__init__" (some "Fault") s_Fault_init fd
  n_place : PySem.W.findIn K (.ref (He.ga K "Fault")) "place" = some none
  b_Refusal : ClF K (He.ga K "Refusal") "__init__" (He.fAd K ("Refusal", some "__init__"))
  v_exc : PySem.W.findCls K (.type "Exception") (.type "type") "__init__" = some (.val (.builtin "Exception.__init__"))
  m_FF : PySem.W.exmOne K (.ref (He.ga K "Fault")) (.ref (He.ga K "Fault")) = some true
  t_NUMBERS : mg "NUMBERS" = some (.ref (He.ga K "NUMBERS")) ∧ ITab K (He.ga K "NUMBERS") (iTabV numsL)
  t_LISTS : mg "LISTS" = some (.ref (He.ga K "LISTS")) ∧ ITab K (He.ga K "LISTS") (iTabV lstsL)
  t_CALLS : mg "CALLS" = some (.ref (He.ga K "CALLS")) ∧ ITab K (He.ga K "CALLS") (fTabV K callL)
  q_Word_Words : He.ga K "Word" ≠ He.ga K "Words"
  q_Code_Words : He.ga K "Code" ≠ He.ga K "Words"
  q_Field_Words : He.ga K "Field" ≠ He.ga K "Words"
  q_Code_CardFile : He.ga K "Code" ≠ He.ga K "CardFile"
  q_Field_CardFile : He.ga K "Field" ≠ He.ga K "CardFile"
  q_Code_Handed : He.ga K "Code" ≠ He.ga K "Handed"
  q_Field_Handed : He.ga K "Field" ≠ He.ga K "Handed"
  q_CardFile_Handed : He.ga K "CardFile" ≠ He.ga K "Handed"
/-! ### data -/

def codeD (c : Vbenaj.Code) : D := .ins "Code" ["name", "holes", "cost"] [.v (.str (bS c.name)), .i c.holes, .i c.cost]
def fieldD (x : Vbenaj.Field) : D := .ins "Field" ["name", "asked", "codes"] [.v (.str (bS x.name)), .i x.asked, .lst (x.codes.map codeD)]
def fileD (f : Vbenaj.File) : D := .ins "CardFile" ["holes", "fields"] [.i f.holes, .lst (f.fields.map fieldD)]
def rowD (r : List (Option Int)) : D := .lst ((r.map optV).map D.v)
/-! ### a def keeps its promise -/
section
variable {P : Program} {w : World} {K : PySem.W.Frag} {mg : PySem.Str → Option Value} {base : Heap}
theorem cal_of {x : PySem.Str} {st : Stmt} {N ps : List PySem.Str} {k : Nat} {sp : Sp} (hF : ∃ fd, FnP K x x none st fd) (hm : mg x = some (.ref (He.ga K x))) (S : FnScope N ps (defScope st)) (len : ∀ vs H Q E, sp vs H Q E → vs.length = ps.length)
    (hb : ∀ (kV doc pm : Value) (an : Option Addr) (cdv ct : Value) (us : List Value), us.length = ps.length → bindArgs (PySem.W.fnOf x x (defArgs st) (defBody st) (defScope st) .none kV doc pm an cdv ct) ⟨us, []⟩ = pure (ps.zip us))
    (h : ∀ (cdv : Value) (A : Around) (outer : List Env) (s : Shared) (H : Hp) (vs : List V) (Q : VK) (E : XK), Room k (A.deeper (envOfC x (defScope st) s.heap.objs.size (He.ga K x) cdv)) → sp vs H Q E →
      ∃ t, PSs (cxOf CX0 P w K mg base N x (defScope st) (He.ga K x) cdv A outer s H E).nox (defBody st) t ∧ t { nx := fun _ H' => Q .non H', rt := Q } (start N vs) H) : Cal P w K mg base (k + 1) x sp [] := by
  obtain ⟨fd, F⟩ := hF
  refine ⟨He.ga K x, fd, ps, [], F.ok S len fun cdv A outer s H vs Q E hr hs => ?_, hm, F.kp, F.bindsN hb, .nil⟩
  obtain ⟨t, h1, h2⟩ := h cdv A outer s H vs Q E hr hs
  exact ⟨t, h1.nox, h2⟩
theorem met_of {c m q : PySem.Str} {st : Stmt} {N ps : List PySem.Str} {k : Nat} {sp : Sp} (hF : ∃ fd, FnP K m q (some c) st fd) (hc : Cls K (He.ga K c)) (hm : Meth K (He.ga K c) m (He.fAd K (c, some m))) (S : FnScope N ps (defScope st)) (len : ∀ vs H Q E, sp vs H Q E → vs.length = ps.length)
    (hb : ∀ (kV doc pm : Value) (an : Option Addr) (cdv ct : Value) (us : List Value), us.length = ps.length → bindArgs (PySem.W.fnOf m q (defArgs st) (defBody st) (defScope st) .none kV doc pm an cdv ct) ⟨us, []⟩ = pure (ps.zip us))
    (h : ∀ (cdv : Value) (A : Around) (outer : List Env) (s : Shared) (H : Hp) (vs : List V) (Q : VK) (E : XK), Room k (A.deeper (envOfC q (defScope st) s.heap.objs.size (He.fAd K (c, some m)) cdv)) → sp vs H Q E →
      ∃ t, PSs (cxOf CX0 P w K mg base N q (defScope st) (He.fAd K (c, some m)) cdv A outer s H E).nox (defBody st) t ∧ t { nx := fun _ H' => Q .non H', rt := Q } (start N vs) H) : Met P w K mg base (k + 1) (He.ga K c) m sp [] := by
  obtain ⟨fd, F⟩ := hF
  refine ⟨_, fd, ps, [], hc, hm, F.ok S len fun cdv A outer s H vs Q E hr hs => ?_, F.bindsN hb, .nil⟩
  obtain ⟨t, h1, h2⟩ := h cdv A outer s H vs Q E hr hs
  exact ⟨t, h1.nox, h2⟩
theorem mak_of {c q : PySem.Str} {st : Stmt} {N ps : List PySem.Str} {k : Nat} {sp : Sp} (hF : ∃ fd, FnP K "__init__" q (some c) st fd) (hm : mg c = some (.ref (He.ga K c))) (hM : Mk K (He.ga K c) (He.fAd K (c, some "__init__"))) (S : FnScope N ps (defScope st)) (len : ∀ vs H Q E, sp vs H Q E → vs.length = ps.length)
    (hb : ∀ (kV doc pm : Value) (an : Option Addr) (cdv ct : Value) (us : List Value), us.length = ps.length → bindArgs (PySem.W.fnOf "__init__" q (defArgs st) (defBody st) (defScope st) .none kV doc pm an cdv ct) ⟨us, []⟩ = pure (ps.zip us))
    (h : ∀ (cdv : Value) (A : Around) (outer : List Env) (s : Shared) (H : Hp) (vs : List V) (Q : VK) (E : XK), Room k (A.deeper (envOfC q (defScope st) s.heap.objs.size (He.fAd K (c, some "__init__")) cdv)) → sp vs H Q E →
      ∃ t, PSs (cxOf CX0 P w K mg base N q (defScope st) (He.fAd K (c, some "__init__")) cdv A outer s H E).nox (defBody st) t ∧ t { nx := fun _ H' => Q .non H', rt := Q } (start N vs) H) : Mak P w K mg base (k + 1) c (He.ga K c) sp [] := by
  obtain ⟨fd, F⟩ := hF
  refine ⟨_, fd, ps, [], hM, F.ok S len fun cdv A outer s H vs Q E hr hs => ?_, hm, F.bindsN hb, .nil⟩
  obtain ⟨t, h1, h2⟩ := h cdv A outer s H vs Q E hr hs
  exact ⟨t, h1.nox, h2⟩
theorem calx_of {x : PySem.Str} {st : Stmt} {N ps : List PySem.Str} {k : Nat} {sp : Sp} (hF : ∃ fd, FnP K x x none st fd) (hm : mg x = some (.ref (He.ga K x))) (S : FnScope N ps (defScope st)) (len : ∀ vs H Q E, sp vs H Q E → vs.length = ps.length)
    (hb : ∀ (kV doc pm : Value) (an : Option Addr) (cdv ct : Value) (us : List Value), us.length = ps.length → bindArgs (PySem.W.fnOf x x (defArgs st) (defBody st) (defScope st) .none kV doc pm an cdv ct) ⟨us, []⟩ = pure (ps.zip us))
    (h : ∀ (cdv : Value) (A : Around) (outer : List Env) (s : Shared) (H : Hp) (vs : List V) (Q : VK) (E : XK), Room k (A.deeper (envOfC x (defScope st) s.heap.objs.size (He.ga K x) cdv)) → sp vs H Q E →
      ∃ t, PSs (cxOf (L2.CX P w) P w K mg base N x (defScope st) (He.ga K x) cdv A outer s H E) (defBody st) t ∧ t { nx := fun _ H' => Q .non H', rt := Q } (start N vs) H) : CalX P w K mg base (k + 1) x sp := by
  obtain ⟨fd, F⟩ := hF
  exact ⟨He.ga K x, fd, ps, F.ok S len fun cdv A outer s H vs Q E hr hs => h cdv A outer s H vs Q E hr hs, hm, F.kp, F.bindsN hb⟩
theorem fn_ini {c q : PySem.Str} {st : Stmt} {N ps : List PySem.Str} {k : Nat} {sp : Sp} {fd : FuncData} (F : FnP K "__init__" q (some c) st fd) (S : FnScope N ps (defScope st)) (len : ∀ vs H Q E, sp vs H Q E → vs.length = ps.length)
    (h : ∀ (cdv : Value) (A : Around) (outer : List Env) (s : Shared) (H : Hp) (vs : List V) (Q : VK) (E : XK), Room k (A.deeper (envOfC q (defScope st) s.heap.objs.size (He.fAd K (c, some "__init__")) cdv)) → sp vs H Q E →
      ∃ t, PSs (cxOf CX0 P w K mg base N q (defScope st) (He.fAd K (c, some "__init__")) cdv A outer s H E).nox (defBody st) t ∧ t { nx := fun _ H' => Q .non H', rt := Q } (start N vs) H) : FnOk P w K mg base CX0 (k + 1) (He.fAd K (c, some "__init__")) fd ps sp := by
  refine F.ok S len fun cdv A outer s H vs Q E hr hs => ?_
  obtain ⟨t, h1, h2⟩ := h cdv A outer s H vs Q E hr hs
  exact ⟨t, h1.nox, h2⟩
theorem ini_of {c q : PySem.Str} {st : Stmt} {N ps : List PySem.Str} {k : Nat} {sp : Sp} (hF : ∃ fd, FnP K "__init__" q (some c) st fd) (hT : ErrF K c ∧ mg c = some (.ref (He.ga K c))) (S : FnScope N ps (defScope st)) (len : ∀ vs H Q E, sp vs H Q E → vs.length = ps.length)
    (hb : ∀ (kV doc pm : Value) (an : Option Addr) (cdv ct : Value) (us : List Value), us.length = ps.length → bindArgs (PySem.W.fnOf "__init__" q (defArgs st) (defBody st) (defScope st) .none kV doc pm an cdv ct) ⟨us, []⟩ = pure (ps.zip us))
    (h : ∀ (cdv : Value) (A : Around) (outer : List Env) (s : Shared) (H : Hp) (vs : List V) (Q : VK) (E : XK), Room k (A.deeper (envOfC q (defScope st) s.heap.objs.size (He.fAd K (c, some "__init__")) cdv)) → sp vs H Q E →
      ∃ t, PSs (cxOf CX0 P w K mg base N q (defScope st) (He.fAd K (c, some "__init__")) cdv A outer s H E).nox (defBody st) t ∧ t { nx := fun _ H' => Q .non H', rt := Q } (start N vs) H) : Ini P w K mg base (k + 1) c sp := by
  obtain ⟨fd, F⟩ := hF
  exact ⟨hT.1.er, hT.2, _, fd, ps, hT.1.ini, hT.1.tyI, fn_ini F S len h, F.bindsN hb⟩
theorem clm_of {c q : PySem.Str} {st : Stmt} {N ps : List PySem.Str} {k : Nat} {sp : Sp} (hF : ∃ fd, FnP K "__init__" q (some c) st fd) (hm : mg c = some (.ref (He.ga K c))) (hc : ClF K (He.ga K c) "__init__" (He.fAd K (c, some "__init__"))) (S : FnScope N ps (defScope st)) (len : ∀ vs H Q E, sp vs H Q E → vs.length = ps.length)
    (hb : ∀ (kV doc pm : Value) (an : Option Addr) (cdv ct : Value) (us : List Value), us.length = ps.length → bindArgs (PySem.W.fnOf "__init__" q (defArgs st) (defBody st) (defScope st) .none kV doc pm an cdv ct) ⟨us, []⟩ = pure (ps.zip us))
    (h : ∀ (cdv : Value) (A : Around) (outer : List Env) (s : Shared) (H : Hp) (vs : List V) (Q : VK) (E : XK), Room k (A.deeper (envOfC q (defScope st) s.heap.objs.size (He.fAd K (c, some "__init__")) cdv)) → sp vs H Q E →
      ∃ t, PSs (cxOf CX0 P w K mg base N q (defScope st) (He.fAd K (c, some "__init__")) cdv A outer s H E).nox (defBody st) t ∧ t { nx := fun _ H' => Q .non H', rt := Q } (start N vs) H) : Clm P w K mg base (k + 1) c "__init__" sp := by
  obtain ⟨fd, F⟩ := hF
  exact ⟨hm, _, fd, ps, hc, F.kp, fn_ini F S len h, F.bindsN hb⟩
end
end Nt

set_option maxHeartbeats 4000000
namespace Nt
open PySem PySem.Spec PyProof.Rows L2 Evl
open C8 (Cal Mak Met pe_c pe_mk pe_mt pe_mt0 pe_gc)
abbrev NC := Vbenaj.Code
abbrev NX := Vbenaj.Field
abbrev NF := Vbenaj.File
section
variable {P : Program} {w : World} {K : PySem.W.Frag} {mg : PySem.Str → Option Value} {base : Heap}
/-! fields of the data -/
section
variable {σ : L2.St} {H : Hp} {te : TE} {f : NF} {x : NX} {c : NC}
theorem ed_file_holes (T : Txt K mg) (h : EvD K te σ H (fileD f)) : Ev (tFld K te "holes") σ H (.int f.holes) := ev_fld h T.a_CardFile_holes rfl
theorem ed_file_fields (T : Txt K mg) (h : EvD K te σ H (fileD f)) : EvD K (tFld K te "fields") σ H (.lst (f.fields.map fieldD)) := ed_fld h T.a_CardFile_fields rfl
theorem xd_file_fields (T : Txt K mg) (h : EvX K te σ H (fileD f)) : EvX K (tFld K te "fields") σ H (.lst (f.fields.map fieldD)) := xd_fld h T.a_CardFile_fields rfl
theorem ed_field_asked (T : Txt K mg) (h : EvD K te σ H (fieldD x)) : Ev (tFld K te "asked") σ H (.int x.asked) := ev_fld h T.a_Field_asked rfl
theorem ed_field_name (T : Txt K mg) (h : EvD K te σ H (fieldD x)) : Ev (tFld K te "name") σ H (.str (bS x.name)) := ev_fld h T.a_Field_name rfl
theorem ed_field_codes (T : Txt K mg) (h : EvD K te σ H (fieldD x)) : EvD K (tFld K te "codes") σ H (.lst (x.codes.map codeD)) := ed_fld h T.a_Field_codes rfl
theorem xd_field_codes (T : Txt K mg) (h : EvX K te σ H (fieldD x)) : EvX K (tFld K te "codes") σ H (.lst (x.codes.map codeD)) := xd_fld h T.a_Field_codes rfl
theorem ed_code_holes (T : Txt K mg) (h : EvD K te σ H (codeD c)) : Ev (tFld K te "holes") σ H (.int c.holes) := ev_fld h T.a_Code_holes rfl
theorem ed_code_cost (T : Txt K mg) (h : EvD K te σ H (codeD c)) : Ev (tFld K te "cost") σ H (.int c.cost) := ev_fld h T.a_Code_cost rfl
theorem ed_code_name (T : Txt K mg) (h : EvD K te σ H (codeD c)) : Ev (tFld K te "name") σ H (.str (bS c.name)) := ev_fld h T.a_Code_name rfl
end
section
variable {σ : L2.St} {H : Hp} {ta tb : TE} {r : Row} {j : Nat} {i : Int}
theorem row_at (hj : j < r.length) : ((r.map optV).map D.v)[j]? = some (.v (optV (r.getD j none))) := by
  rw [List.getElem?_map, List.getElem?_map, getD_some (d := none) hj]; rfl
theorem ev_ixRow (hd : EvD K ta σ H (rowD r)) (hi : Ev tb σ H (.int i)) (e : i = (j : Int)) (hj : j < r.length) : Ev (tOp (rIxL K) ta tb) σ H (optV (r.getD j none)) := by
  subst e
  exact ev_ix hd hi (atI_nat' (row_at hj))
end
namespace last_row
def sp (K : PySem.W.Frag) : Sp := spF K (fun a : NF × Int => a.1.holes ≤ 60) (fun a => [fileD a.1, .i a.2]) fun a => rowD (lastRow a.1.holes a.2)
theorem len : ∀ vs H Q E, sp K vs H Q E → vs.length = 2 := spF_len fun _ => rfl
abbrev sS : Stmt := s_last_row
abbrev nN : List PySem.Str := ["file", "number"]
theorem sc : FnScope nN ["file", "number"] (defScope sS) := ⟨rfl, rfl, rfl, by decide +kernel, rfl, by decide +kernel, by decide +kernel⟩
theorem ok (T : Txt K mg) : Cal P w K mg base 1 "last_row" (sp K) [] := by
  refine cal_of T.d_last_row.1 T.d_last_row.2 sc len (fun _ _ _ _ _ _ us hl => match us, hl with | [_, _], _ => rfl) fun cdv A outer s H vs Q E hr hs => ⟨_, PSs.nox (pss_one (ps_ret (pe_op op_rep (pe_lst (pa_cons (pv 1) pa_nil)) (pe_op op_add (pe_fld (pv 0) rfl) pe_int)))), ?_⟩
  obtain ⟨⟨f, n⟩, hf, i, k⟩ := hs
  obtain ⟨x0, x1, rfl, h0, h1⟩ := i.a2
  cases h1.val
  dsimp only at *
  refine s_retD (EvD.eq (ed_vals (el_rep1 (n := f.holes + 1) (el_lst (ea_cons (ev_var rfl) ea_nil) (by simp)) ?_ ?_)) ?_) k
  · exact ev_is (ev_op (ed_file_holes T (ed_var rfl h0)) ev_c rv_I0) rfl
  · have : f.holes ≤ 60 := hf
    omega
  · show _ = D.lst (((List.replicate (f.holes + 1) (some n)).map optV).map D.v)
    rw [List.map_replicate, List.map_replicate, List.map_replicate]
    rfl
end last_row
namespace least_of
theorem ints_of : ∀ r : Row, (r.filter fun o => decide (o ≠ none)).map optV = (r.filterMap id).map V.int
  | [] => rfl
  | none :: r => ints_of r
  | some n :: r => congrArg (V.int n :: ·) (ints_of r)
def sp (K : PySem.W.Frag) : Sp := spF K (fun a : Row => a.length ≤ 40000) (fun a => [rowD a]) fun a => .v (optV (leastOf a))
theorem len : ∀ vs H Q E, sp K vs H Q E → vs.length = 1 := spF_len fun _ => rfl
abbrev sS : Stmt := s_least_of
abbrev nN : List PySem.Str := ["costs", "cost"]
theorem sc : FnScope nN ["costs"] (defScope sS) := ⟨rfl, rfl, rfl, by decide +kernel, rfl, by decide +kernel, by decide +kernel⟩
theorem ok (T : Txt K mg) : Cal P w K mg base 1 "least_of" (sp K) [] := by
  refine cal_of T.d_least_of.1 T.d_least_of.2 sc len (fun _ _ _ _ _ _ us hl => match us, hl with | [_], _ => rfl) fun cdv A outer s H vs Q E hr hs => ⟨_, PSs.nox (pss_one (ps_ret (pe_callBK (cr_minD rfl) (by rfl) T.f_min (by decide +kernel) (pa_cons (pe_lc (own := [("cost", 1)]) (g := (gName 1)) rfl sc.nd (pi_list (pv 0)) (blkOk_by (own := [("cost", 1)]) (N := nN) (sc := defScope sS) (by decide +kernel)) (fun _ _ _ _ _ => pg_name (i := 1) sc.nd rfl (Or.inl rfl)) (fun _ _ _ _ _ => pts_one (pt_cmpR op_notN (pv 1) pe_non (nomark _))) (fun _ _ _ _ _ => (pv 1))) pa_nil) (pk_cons pe_non pk_nil)))), ?_⟩
  obtain ⟨r, hr, i, k⟩ := hs
  obtain ⟨x0, rfl, h0⟩ := i.a1
  have h1 : Is K H x0 (.lst (r.map fun o => .v (optV o))) := by
    unfold rowD at h0
    rw [List.map_map] at h0
    exact h0
  refine s_retD (ed_v (ev_minD (ns := r.filterMap id) (o := leastOf r) ?_ ?_ ?_)) k
  · rw [← ints_of r]
    refine el_lcF (l := r) (fD := fun o => .v (optV o)) (fun o => decide (o ≠ none)) optV (ed_var rfl h1) hr (fun _ => rfl) (fun i a x H1 e1 e2 e3 => ?_) fun i a x H1 e1 e2 e3 _ => ?_
    · cases e3.val
      exact et_notN (ev_var rfl)
    · cases e3.val
      exact ev_var rfl
  · intro z
    rcases leastOf_spec r with ⟨e, _⟩ | ⟨m, e, hm, _⟩
    · exact e
    · have : m ∈ r.filterMap id := List.mem_filterMap.mpr ⟨some m, hm, rfl⟩
      rw [z] at this
      cases this
  · intro m hm hy
    have mem : ∀ {n : Int}, some n ∈ r ↔ n ∈ r.filterMap id := fun {n} => ⟨fun h => List.mem_filterMap.mpr ⟨some n, h, rfl⟩, fun h => by obtain ⟨o, h1, h2⟩ := List.mem_filterMap.mp h; cases h2; exact h1⟩
    rcases leastOf_spec r with ⟨_, h⟩ | ⟨v, e, hv, h⟩
    · exact absurd (mem.mpr hm) (h m)
    · rw [e, Int.le_antisymm (h m (mem.mpr hm)) (hy v (mem.mp hv))]
end least_of
namespace Field_cost_in_all
def sp (K : PySem.W.Frag) : Sp := spF K (fun a : NX × NC => OkX a.1) (fun a => [fieldD a.1, codeD a.2]) fun a => .i ((a.1.asked * a.2.cost : Nat) : Int)
theorem len : ∀ vs H Q E, sp K vs H Q E → vs.length = 2 := spF_len fun _ => rfl
abbrev sS : Stmt := s_Field_cost_in_all
abbrev nN : List PySem.Str := ["self", "code"]
theorem sc : FnScope nN ["self", "code"] (defScope sS) := ⟨rfl, rfl, rfl, by decide +kernel, rfl, by decide +kernel, by decide +kernel⟩
theorem ok (T : Txt K mg) : Met P w K mg base 1 (He.ga K "Field") "cost_in_all" (sp K) [] := by
  refine met_of T.h_Field_cost_in_all.1 T.k_Field.1 T.h_Field_cost_in_all.2 sc len (fun _ _ _ _ _ _ us hl => match us, hl with | [_, _], _ => rfl) fun cdv A outer s H vs Q E hr hs => ⟨_, PSs.nox (pss_one (ps_ret (pe_op op_mul (pe_fld (pv 0) rfl) (pe_fld (pv 1) rfl)))), ?_⟩
  obtain ⟨⟨x, c⟩, hx, i, k⟩ := hs
  obtain ⟨x0, x1, rfl, h0, h1⟩ := i.a2
  dsimp only at hx h0 h1 k
  refine s_retD (ed_v (ev_is (ev_op (ed_field_asked T (ed_var rfl h0)) (ed_code_cost T (ed_var rfl h1)) (rv_I ?_)) ?_)) k
  · have := hx.a
    exact .inl ⟨by omega, by omega⟩
  · show V.int _ = V.int _
    congr 1
end Field_cost_in_all
namespace costs_with
def sp (K : PySem.W.Frag) : Sp := spF K (fun a : NX × Row × Nat => OkX a.1 ∧ a.2.1.length ≤ 61 ∧ a.2.2 < a.2.1.length) (fun a => [fieldD a.1, rowD a.2.1, .i a.2.2]) fun a => rowD (costsWith a.1 a.2.1 a.2.2)
theorem len : ∀ vs H Q E, sp K vs H Q E → vs.length = 3 := spF_len fun _ => rfl
abbrev sS : Stmt := s_costs_with
abbrev nN : List PySem.Str := ["field", "behind", "holes", "costs", "code", "rest"]
theorem sc : FnScope nN ["field", "behind", "holes"] (defScope sS) := ⟨rfl, rfl, rfl, by decide +kernel, rfl, by decide +kernel, by decide +kernel⟩
theorem ok (T : Txt K mg) : Cal P w K mg base 2 "costs_with" (sp K) [] := by
  have d_Field_cost_in_all := Field_cost_in_all.ok (P := P) (w := w) (base := base) T
  refine cal_of T.d_costs_with.1 T.d_costs_with.2 sc len (fun _ _ _ _ _ _ us hl => match us, hl with | [_, _, _], _ => rfl) fun cdv A outer s H vs Q E hr hs => ⟨_, PSs.nox (pss_cons (ps_set (i := 3) sc.nd rfl (Or.inl rfl) (pe_lst pa_nil)) (pss_cons (ps_for PassesOwn.never rfl (pi_list (pe_fld (pv 0) rfl)) (pg_name (i := 4) sc.nd rfl (Or.inl rfl)) (pss_cons (ps_set (i := 5) sc.nd rfl (Or.inl rfl) (pe_ifExp (pt_cmpR op_le (pe_fld (pv 4) rfl) (pv 2) (nomark _)) (pe_ix ix_list (pv 1) (pe_op op_sub (pv 2) (pe_fld (pv 4) rfl)) (fun _ _ => rfl)) pe_non)) (pss_one (ps_expr (pe_bm PySem.F.plainAttrs_list PySem.F.slot_list_append PySem.F.type_list_append mt_append (pv 3) (pa_cons (pe_ifExp (pt_cmpR op_isN (pv 5) pe_non (nomark _)) pe_non (pe_op op_add (pe_mt d_Field_cost_in_all hr (by decide) (pv 0) (pa_cons (pv 4) pa_nil)) (pv 5))) pa_nil)))))) (pss_one (ps_ret (pv 3))))), ?_⟩
  obtain ⟨⟨x, r, h⟩, ⟨hx, hr2, hh⟩, i, k⟩ := hs
  obtain ⟨x0, x1, x2, rfl, h0, h1, h2⟩ := i.a3
  dsimp only at hx hr2 hh h0 h1 h2 k
  cases h2.val
  refine q_asgL (el_lst ea_nil (by simp)) fun p H1 hp e1 hp1 => ?_
  refine s_forX e1 (xd_field_codes T (xd_var rfl h0)) (fun i σ' H' => Ex H H' ∧ H' p = some (.lst (((costsWith x r h).take i).map optV)) ∧ ∃ u v, σ' = [some x0, some x1, some (.int h), some (.ref p), u, v])
    (fun H2 e2 => ⟨e1.trans e2, e2 _ _ hp1, none, none, rfl⟩) (fun _ _ _ q => q.1) ?_ ?_
  · rintro i c y σ' H' hc iy ⟨ex, hp2, u, v, rfl⟩
    replace iy := iy.mono ex
    have hi : i < (costsWith x r h).length := by rw [costsWith_length]; exact (List.getElem?_eq_some_iff.mp hc).1
    have hl : ((costsWith x r h).take (i + 1)).map optV = ((costsWith x r h).take i).map optV ++ [optV (costWith x r h c)] := by
      rw [List.take_succ_eq_append_getElem hi, List.map_append]
      congr 1
      show [optV _] = [optV _]
      congr 2
      unfold costsWith
      have : (x.codes.map (costWith x r h))[i]? = some (costWith x r h c) := by rw [List.getElem?_map, hc]; rfl
      exact (List.getElem?_eq_some_iff.mp this).2
    have j0 := h0.mono ex
    have j1 := h1.mono ex
    have ci : c ∈ x.codes := List.mem_of_getElem? hc
    have oc := hx.c c ci
    have ln : (((costsWith x r h).take i).map optV).length < 100000 := by
      have := hx.n
      rw [List.length_map, List.length_take, costsWith_length]
      omega
    by_cases hle : c.holes ≤ h
    · refine q_asg (v := optV (r.getD (h - c.holes) none)) (ev_if (b := true) (et_is (et_le (ed_code_holes T (ed_var rfl iy)) (ev_var rfl)) (decide_eq_true (by omega))) (fun _ => ?_) (fun z => by cases z)) fun H2 e2 => ?_
      · exact ev_ixRow (ed_var rfl j1) (ev_sub (ev_var rfl) (ed_code_holes T (ed_var rfl iy))) (by omega) (by omega)
      · refine s_app (v := optV (costWith x r h c)) (e2 _ _ hp2) (ev_var rfl) (ev_if (et_isN (ev_var rfl)) (fun z => ?_) fun z => ?_) ln fun H3 e3 => ⟨Ex.mut ((ex.trans e2).trans e3) hp, ?_, _, _, rfl⟩
        · have z2 := of_decide_eq_true z
          unfold costWith
          rw [if_pos hle, z2]
          exact ev_c
        · have z2 := of_decide_eq_false z
          unfold costWith
          rw [if_pos hle]
          cases q : r.getD (h - c.holes) none with
          | none => exact absurd q z2
          | some n => exact ev_add ((ed_methF (x, c) (ed_var rfl (j0.mono e2)) rfl (ad1 (ed_var rfl (iy.mono e2))) hx rfl).ev) (ev_var rfl)
        · rw [hl]; exact upd_same
    · refine q_asg (v := .non) (ev_if (b := false) (et_is (et_le (ed_code_holes T (ed_var rfl iy)) (ev_var rfl)) (decide_eq_false (by omega))) (fun z => by cases z) (fun _ => ev_c)) fun H2 e2 => ?_
      refine s_app (v := optV (costWith x r h c)) (e2 _ _ hp2) (ev_var rfl) (ev_if (b := true) (et_is (et_isN (o := none) (ev_var rfl)) rfl) (fun z => ?_) fun z => by cases z) ln fun H3 e3 => ⟨Ex.mut ((ex.trans e2).trans e3) hp, ?_, _, _, rfl⟩
      · unfold costWith
        rw [if_neg hle]
        exact ev_c
      · rw [hl]; exact upd_same
  · rintro σ' H' ⟨ex, hp2, u, v, rfl⟩
    refine s_retD' ex (EvD.eq (ed_var rfl (Is.vals hp2)) ?_) k
    rw [List.take_of_length_le (Nat.le_of_eq (costsWith_length ..))]
    rfl
end costs_with
namespace row_ahead
def sp (K : PySem.W.Frag) : Sp := spF K (fun a : NX × Row => OkX a.1 ∧ a.2.length ≤ 61) (fun a => [fieldD a.1, rowD a.2]) fun a => rowD (rowAhead a.1 a.2)
theorem len : ∀ vs H Q E, sp K vs H Q E → vs.length = 2 := spF_len fun _ => rfl
abbrev sS : Stmt := s_row_ahead
abbrev nN : List PySem.Str := ["field", "behind", "holes"]
theorem sc : FnScope nN ["field", "behind"] (defScope sS) := ⟨rfl, rfl, rfl, by decide +kernel, rfl, by decide +kernel, by decide +kernel⟩
theorem ok (T : Txt K mg) : Cal P w K mg base 3 "row_ahead" (sp K) [] := by
  have d_least_of := least_of.ok (P := P) (w := w) (base := base) T
  have d_costs_with := costs_with.ok (P := P) (w := w) (base := base) T
  refine cal_of T.d_row_ahead.1 T.d_row_ahead.2 sc len (fun _ _ _ _ _ _ us hl => match us, hl with | [_, _], _ => rfl) fun cdv A outer s H vs Q E hr hs => ⟨_, PSs.nox (pss_one (ps_ret (pe_lc (own := [("holes", 2)]) (g := (gName 2)) (tt := tYes) rfl sc.nd (pi_range1 (by rfl) T.f_range (pa_cons (pe_callB call_len_seq (by rfl) T.f_len PySem.boot_len (pa_cons (pv 1) pa_nil)) pa_nil)) (blkOk_by (own := [("holes", 2)]) (N := nN) (sc := defScope sS) (by decide +kernel)) (fun _ _ _ _ _ => pg_name (i := 2) sc.nd rfl (Or.inl rfl)) (fun _ _ _ _ _ => pts_nil) (fun _ _ _ _ _ => (pe_c d_least_of hr (by decide) rfl (pa_cons (pe_c d_costs_with hr (by decide) rfl (pa_cons (pv 0) (pa_cons (pv 1) (pa_cons (pv 2) pa_nil)))) pa_nil)))))), ?_⟩
  obtain ⟨⟨x, r⟩, ⟨hx, hr2⟩, i, k⟩ := hs
  obtain ⟨x0, x1, rfl, h0, h1⟩ := i.a2
  dsimp only at hx hr2 h0 h1 k
  refine s_retD (EvD.eq (ed_vals (el_lcR (n := r.length) (u := fun h => optV (leastOf (costsWith x r h))) ?_ (by omega) (fun _ => rfl) fun h H1 e1 hh => ?_)) ?_) k
  · exact ea_cons (ev_is (ev_lenD (ed_var rfl h1)) (by rw [List.length_map, List.length_map])) ea_nil
  · exact ev_callF (costsWith x r h) (ad1 (ed_callF (x, r, h) (ad3 (ed_var rfl (h0.mono e1)) (ed_var rfl (h1.mono e1)) (ed_v (ev_var rfl))) ⟨hx, hr2, hh⟩)) (by rw [costsWith_length]; have := hx.n; omega) rfl
  · show D.lst _ = D.lst ((((List.range r.length).map fun h => leastOf (costsWith x r h)).map optV).map D.v)
    rw [List.map_map (f := fun h => leastOf (costsWith x r h))]
    rfl
end row_ahead
namespace table
/-- rows in the heap -/
inductive RowsAt (H : Hp) : List V → List Row → Prop
  | nil : RowsAt H [] []
  | cons {q : Addr} {r : Row} {xs : List V} {rs : List Row} : H q = some (.lst (r.map optV)) → RowsAt H xs rs → RowsAt H (.ref q :: xs) (r :: rs)
theorem RowsAt.to {H : Hp} : ∀ {xs : List V} {rs : List Row}, RowsAt H xs rs → IsL K H xs (rs.map rowD)
  | _, _, .nil => .nil
  | _, _, .cons h t => .cons (Is.vals h) (RowsAt.to t)
theorem RowsAt.ex {H H' : Hp} (e : Ex H H') : ∀ {xs : List V} {rs : List Row}, RowsAt H xs rs → RowsAt H' xs rs
  | _, _, .nil => .nil
  | _, _, .cons h t => .cons (e _ _ h) (RowsAt.ex e t)
theorem RowsAt.upd {H : Hp} {p a : Addr} {o : HO} {ys : List V} (hp : H p = some (.lst (.ref a :: ys))) : ∀ {xs : List V} {rs : List Row}, RowsAt H xs rs → RowsAt (L2.upd H p o) xs rs
  | _, _, .nil => .nil
  | _, _, .cons (q := q) (r := r) h t => .cons (by
      have ne : q ≠ p := fun z => by
        rw [z, hp] at h
        have e := Option.some.inj h
        injection e with e
        cases r with
        | nil => cases e
        | cons b r => cases b <;> cases e
      rw [upd_ne ne]
      exact h) (RowsAt.upd hp t)
theorem RowsAt.snoc {H : Hp} {q : Addr} {r : Row} (h : H q = some (.lst (r.map optV))) : ∀ {xs : List V} {rs : List Row}, RowsAt H xs rs → RowsAt H (xs ++ [.ref q]) (rs ++ [r])
  | _, _, .nil => .cons h .nil
  | _, _, .cons a t => .cons a (RowsAt.snoc h t)
theorem RowsAt.hd {H : Hp} {xs : List V} {r : Row} {rs : List Row} (h : RowsAt H xs (r :: rs)) : ∃ a ys, xs = .ref a :: ys := by cases h with | cons a t => exact ⟨_, _, rfl⟩
def sp (K : PySem.W.Frag) : Sp := spF K (fun f : NF => OkF f) (fun f => [fileD f]) fun f => .lst ((tabI f.holes f.fields).map rowD)
theorem len : ∀ vs H Q E, sp K vs H Q E → vs.length = 1 := spF_len fun _ => rfl
abbrev sS : Stmt := s_table
abbrev nN : List PySem.Str := ["file", "rows", "field"]
theorem sc : FnScope nN ["file"] (defScope sS) := ⟨rfl, rfl, rfl, by decide +kernel, rfl, by decide +kernel, by decide +kernel⟩
theorem ok (T : Txt K mg) : Cal P w K mg base 4 "table" (sp K) [] := by
  have d_row_ahead := row_ahead.ok (P := P) (w := w) (base := base) T
  have d_last_row := last_row.ok (P := P) (w := w) (base := base) T
  refine cal_of T.d_table.1 T.d_table.2 sc len (fun _ _ _ _ _ _ us hl => match us, hl with | [_], _ => rfl) fun cdv A outer s H vs Q E hr hs => ⟨_, PSs.nox (pss_cons (ps_set (i := 1) sc.nd rfl (Or.inl rfl) (pe_lst (pa_cons (pe_c d_last_row hr (by decide) rfl (pa_cons (pv 0) (pa_cons pe_int pa_nil))) pa_nil))) (pss_cons (ps_for PassesOwn.never rfl (pi_reversed (by rfl) T.f_reversed (pa_cons (pe_fld (pv 0) rfl) pa_nil)) (pg_name (i := 2) sc.nd rfl (Or.inl rfl)) (pss_one (ps_expr (pe_bm PySem.F.plainAttrs_list PySem.F.slot_list_append PySem.F.type_list_append mt_append (pv 1) (pa_cons (pe_c d_row_ahead hr (by decide) rfl (pa_cons (pv 2) (pa_cons (pe_ix ix_list (pv 1) (pe_un un_neg pe_int) (fun _ _ => rfl)) pa_nil))) pa_nil))))) (pss_one (ps_ret (RT.pe_listRev rfl (by rfl) T.f_list (by rfl) T.f_reversed (pv 1)))))), ?_⟩
  obtain ⟨f, hf, i, k⟩ := hs
  obtain ⟨x0, rfl, h0⟩ := i.a1
  dsimp only at hf h0 k
  refine q_asgLD (eld_lst (ds := [rowD (lastRow f.holes 0)]) (ad1 (ed_callF (f, 0) (ad2 (ed_var rfl h0) (ed_v ev_c)) hf.h)) (by simp)) fun p xs0 Hm em hp ix => ?_
  obtain ⟨y0, rfl, iy0⟩ := ix.a1
  have ex0 : Ex H (upd Hm p (.lst [y0])) := em.trans (Ex.new hp)
  have tl : tabI f.holes (f.fields.drop f.fields.length) = [lastRow f.holes 0] := by rw [List.drop_length, tabI_nil]
  have hpH : H p = none := fresh_back em hp
  refine s_forV ex0 (xd_file_fields T (xd_var rfl h0)) (fun i σ' H' => Ex H H' ∧ ∃ xs, H' p = some (.lst xs) ∧ RowsAt H' xs (tabI f.holes (f.fields.drop (f.fields.length - i))).reverse ∧ ∃ u, σ' = [some x0, some (.ref p), u])
    (fun H2 e2 => ⟨ex0.trans e2, [y0], e2 _ _ upd_same, ?_, none, rfl⟩) (fun _ _ _ q => q.1) ?_ ?_
  · rw [Nat.sub_zero, tl]
    obtain ⟨q, e, hq⟩ := iy0.vals_inv
    subst e
    exact .cons (e2 _ _ (Ex.new hp _ _ hq)) .nil
  · rintro i c y σ' H' hi hc iy ⟨ex, xs, hp2, rx, u, rfl⟩
    replace iy := iy.mono ex
    have ed : f.fields.drop (f.fields.length - (i + 1)) = c :: f.fields.drop (f.fields.length - i) := by
      have e1 : f.fields.length - (i + 1) = f.fields.length - 1 - i := by omega
      have e2 : f.fields.length - i = (f.fields.length - 1 - i) + 1 := by omega
      obtain ⟨h1, h2⟩ := List.getElem?_eq_some_iff.mp hc
      rw [e1, e2, List.drop_eq_getElem_cons h1, h2]
    obtain ⟨t, u2, et⟩ : ∃ t u2, tabI f.holes (f.fields.drop (f.fields.length - i)) = t :: u2 := by
      cases q : tabI f.holes (f.fields.drop (f.fields.length - i)) with
      | nil => have := tabI_length f.holes (f.fields.drop (f.fields.length - i)); rw [q] at this; cases this
      | cons t u2 => exact ⟨t, u2, rfl⟩
    have et2 : tabI f.holes (f.fields.drop (f.fields.length - (i + 1))) = rowAhead c t :: t :: u2 := by rw [ed, tabI_cons, et]; rfl
    have tlen : t.length = f.holes + 1 := tabI_rows f.holes _ t (by rw [et]; exact List.mem_cons_self)
    rw [et, List.reverse_cons] at rx
    have lx : xs.length = u2.length + 1 := by have := (rx.to (K := K)).length; rw [this, List.length_map, List.length_append, List.length_reverse]; rfl
    have lu : u2.length ≤ 10 := by
      have := tabI_length f.holes (f.fields.drop (f.fields.length - i))
      rw [et, List.length_drop, List.length_cons] at this
      have := hf.n
      omega
    have hfx : OkX c := hf.x c (List.mem_of_getElem? hc)
    have hh := hf.h
    refine s_appD (d := rowD (rowAhead c t)) hp2 (ev_var rfl) (ed_callF (c, t) (ad2 (ed_var rfl iy) (ed_ix (i := -1) (ed_var rfl (.lst hp2 rx.to)) ev_m1 ?_)) ⟨hfx, by rw [tlen]; omega⟩) (by omega) fun z H2 e2 iz => ⟨Ex.mut (ex.trans e2) hpH, xs ++ [z], upd_same, ?_, _, rfl⟩
    · rw [List.map_append]
      exact atI_last
    · obtain ⟨q, e, hq⟩ := iz.vals_inv
      subst e
      rw [et2, List.reverse_cons, List.reverse_cons]
      have r2 := (rx.ex e2).snoc hq
      have hd : ∃ a ys, xs = .ref a :: ys := by
        cases hrev : u2.reverse ++ [t] with
        | nil => cases h : u2.reverse <;> rw [h] at hrev <;> cases hrev
        | cons r rs => rw [hrev] at rx; exact rx.hd
      obtain ⟨a, ys, rfl⟩ := hd
      exact r2.upd (e2 _ _ hp2)
  · rintro σ' H' ⟨ex, xs, hp2, rx, u, rfl⟩
    refine s_retD' ex (EvD.eq (ed_listRev (ed_var rfl (.lst hp2 rx.to))) ?_) k
    rw [Nat.sub_self, List.drop_zero, List.map_reverse, List.reverse_reverse]
end table
end
end Nt

set_option maxHeartbeats 4000000
namespace Nt
open PySem PySem.Spec PyProof.Rows L2 Evl
open C8 (Cal Mak Met pe_c pe_mk pe_mt pe_mt0 pe_gc)
section
variable {P : Program} {w : World} {K : PySem.W.Frag} {mg : PySem.Str → Option Value} {base : Heap}
/-- xs[:-1] -/
theorem cut_m1 {α : Type} {l : List α} {n : Nat} : (l.drop (HT.sIx (n + 1) 0 none)).take (HT.sIx (n + 1) (n + 1) (some (-1)) - HT.sIx (n + 1) 0 none) = l.take n := by
  have e : HT.sIx (n + 1) (n + 1) (some (-1)) = n := by
    show (if (-1 : Int) < 0 then ((-1 : Int) + ((n + 1 : Nat) : Int)).toNat else min (-1 : Int).toNat (n + 1)) = n
    rw [if_pos (by decide)]
    omega
  rw [e, HT.sIx_none]
  rfl
namespace Code_init
def sp (K : PySem.W.Frag) : Sp := spI K "Code" ["name", "holes", "cost"]
theorem len : ∀ vs H Q E, sp K vs H Q E → vs.length = 4 := spI_len rfl
abbrev sS : Stmt := s_Code_init
abbrev nN : List PySem.Str := ["self", "name", "holes", "cost"]
theorem sc : FnScope nN ["self", "name", "holes", "cost"] (defScope sS) := ⟨rfl, rfl, rfl, by decide +kernel, rfl, by decide +kernel, by decide +kernel⟩
theorem ok (T : Txt K mg) : Mak P w K mg base 1 "Code" (He.ga K "Code") (sp K) [] := by
  refine mak_of T.i_Code T.k_Code.2.2 T.k_Code.2.1 sc len (fun _ _ _ _ _ _ us hl => match us, hl with | [_, _, _, _], _ => rfl) fun cdv A outer s H vs Q E hr hs => ⟨_, PSs.nox (pss_cons (ps_fld (pv 0) (pv 1) rfl) (pss_cons (ps_fld (pv 0) (pv 2) rfl) (pss_one (ps_fld (pv 0) (pv 3) rfl)))), ?_⟩
  obtain ⟨p, dx, args, rfl, hl, hp, k⟩ := hs
  obtain ⟨a, b, c, rfl⟩ : ∃ a b c, args = [a, b, c] := by
    match args, hl with
    | [a, b, c], _ => exact ⟨a, b, c, rfl⟩
  refine s_fldI (ev_var rfl) (ev_var rfl) hp T.a_Code_name (by decide) fun H1 e1 => ?_
  refine s_fldI (ev_var rfl) (ev_var rfl) upd_same T.a_Code_holes put1 fun H2 e2 => ?_
  refine s_fldI (ev_var rfl) (ev_var rfl) upd_same T.a_Code_cost put2 fun H3 e3 => ?_
  refine k _ (fun b o hb hb2 => ?_) ?_
  · rw [upd_ne hb]
    refine e3 _ _ ?_
    rw [upd_ne hb]
    refine e2 _ _ ?_
    rw [upd_ne hb]
    exact e1 _ _ hb2
  · rw [upd_same]
    rfl
end Code_init
namespace Field_init
def sp (K : PySem.W.Frag) : Sp := spI K "Field" ["name", "asked", "codes"]
theorem len : ∀ vs H Q E, sp K vs H Q E → vs.length = 4 := spI_len rfl
abbrev sS : Stmt := s_Field_init
abbrev nN : List PySem.Str := ["self", "name", "asked", "codes"]
theorem sc : FnScope nN ["self", "name", "asked", "codes"] (defScope sS) := ⟨rfl, rfl, rfl, by decide +kernel, rfl, by decide +kernel, by decide +kernel⟩
theorem ok (T : Txt K mg) : Mak P w K mg base 1 "Field" (He.ga K "Field") (sp K) [] := by
  refine mak_of T.i_Field T.k_Field.2.2 T.k_Field.2.1 sc len (fun _ _ _ _ _ _ us hl => match us, hl with | [_, _, _, _], _ => rfl) fun cdv A outer s H vs Q E hr hs => ⟨_, PSs.nox (pss_cons (ps_fld (pv 0) (pv 1) rfl) (pss_cons (ps_fld (pv 0) (pv 2) rfl) (pss_one (ps_fld (pv 0) (pv 3) rfl)))), ?_⟩
  obtain ⟨p, dx, args, rfl, hl, hp, k⟩ := hs
  obtain ⟨a, b, c, rfl⟩ : ∃ a b c, args = [a, b, c] := by
    match args, hl with
    | [a, b, c], _ => exact ⟨a, b, c, rfl⟩
  refine s_fldI (ev_var rfl) (ev_var rfl) hp T.a_Field_name (by decide) fun H1 e1 => ?_
  refine s_fldI (ev_var rfl) (ev_var rfl) upd_same T.a_Field_asked put1 fun H2 e2 => ?_
  refine s_fldI (ev_var rfl) (ev_var rfl) upd_same T.a_Field_codes put2 fun H3 e3 => ?_
  refine k _ (fun b o hb hb2 => ?_) ?_
  · rw [upd_ne hb]
    refine e3 _ _ ?_
    rw [upd_ne hb]
    refine e2 _ _ ?_
    rw [upd_ne hb]
    exact e1 _ _ hb2
  · rw [upd_same]
    rfl
end Field_init
namespace CardFile_init
def sp (K : PySem.W.Frag) : Sp := spI K "CardFile" ["holes", "fields"]
theorem len : ∀ vs H Q E, sp K vs H Q E → vs.length = 3 := spI_len rfl
abbrev sS : Stmt := s_CardFile_init
abbrev nN : List PySem.Str := ["self", "holes", "fields"]
theorem sc : FnScope nN ["self", "holes", "fields"] (defScope sS) := ⟨rfl, rfl, rfl, by decide +kernel, rfl, by decide +kernel, by decide +kernel⟩
theorem ok (T : Txt K mg) : Mak P w K mg base 1 "CardFile" (He.ga K "CardFile") (sp K) [] := by
  refine mak_of T.i_CardFile T.k_CardFile.2.2 T.k_CardFile.2.1 sc len (fun _ _ _ _ _ _ us hl => match us, hl with | [_, _, _], _ => rfl) fun cdv A outer s H vs Q E hr hs => ⟨_, PSs.nox (pss_cons (ps_fld (pv 0) (pv 1) rfl) (pss_one (ps_fld (pv 0) (pv 2) rfl))), ?_⟩
  obtain ⟨p, dx, args, rfl, hl, hp, k⟩ := hs
  obtain ⟨a, b, rfl⟩ : ∃ a b, args = [a, b] := by
    match args, hl with
    | [a, b], _ => exact ⟨a, b, rfl⟩
  refine s_fldI (ev_var rfl) (ev_var rfl) hp T.a_CardFile_holes (by decide) fun H1 e1 => ?_
  refine s_fldI (ev_var rfl) (ev_var rfl) upd_same T.a_CardFile_fields put1 fun H2 e2 => ?_
  refine k _ (fun b o hb hb2 => ?_) ?_
  · rw [upd_ne hb]
    refine e2 _ _ ?_
    rw [upd_ne hb]
    exact e1 _ _ hb2
  · rw [upd_same]
    rfl
end CardFile_init
namespace Word_init
def sp (K : PySem.W.Frag) : Sp := spI K "Word" ["place", "signs"]
theorem len : ∀ vs H Q E, sp K vs H Q E → vs.length = 3 := spI_len rfl
abbrev sS : Stmt := s_Word_init
abbrev nN : List PySem.Str := ["self", "place", "signs"]
theorem sc : FnScope nN ["self", "place", "signs"] (defScope sS) := ⟨rfl, rfl, rfl, by decide +kernel, rfl, by decide +kernel, by decide +kernel⟩
theorem ok (T : Txt K mg) : Mak P w K mg base 1 "Word" (He.ga K "Word") (sp K) [] := by
  refine mak_of T.i_Word T.k_Word.2.2 T.k_Word.2.1 sc len (fun _ _ _ _ _ _ us hl => match us, hl with | [_, _, _], _ => rfl) fun cdv A outer s H vs Q E hr hs => ⟨_, PSs.nox (pss_cons (ps_fld (pv 0) (pv 1) rfl) (pss_one (ps_fld (pv 0) (pv 2) rfl))), ?_⟩
  obtain ⟨p, dx, args, rfl, hl, hp, k⟩ := hs
  obtain ⟨a, b, rfl⟩ : ∃ a b, args = [a, b] := by
    match args, hl with
    | [a, b], _ => exact ⟨a, b, rfl⟩
  refine s_fldI (ev_var rfl) (ev_var rfl) hp T.a_Word_place (by decide) fun H1 e1 => ?_
  refine s_fldI (ev_var rfl) (ev_var rfl) upd_same T.a_Word_signs put1 fun H2 e2 => ?_
  refine k _ (fun b o hb hb2 => ?_) ?_
  · rw [upd_ne hb]
    refine e2 _ _ ?_
    rw [upd_ne hb]
    exact e1 _ _ hb2
  · rw [upd_same]
    rfl
end Word_init
namespace with_field
def sp (K : PySem.W.Frag) : Sp := spF K (fun a : List NX × NX => a.1.length ≤ 1000) (fun a => [.lst (a.1.map fieldD), fieldD a.2]) fun a => .lst ((a.1 ++ [a.2]).map fieldD)
theorem len : ∀ vs H Q E, sp K vs H Q E → vs.length = 2 := spF_len fun _ => rfl
abbrev sS : Stmt := s_with_field
abbrev nN : List PySem.Str := ["fields", "field"]
theorem sc : FnScope nN ["fields", "field"] (defScope sS) := ⟨rfl, rfl, rfl, by decide +kernel, rfl, by decide +kernel, by decide +kernel⟩
theorem ok (T : Txt K mg) : Cal P w K mg base 1 "with_field" (sp K) [] := by
  refine cal_of T.d_with_field.1 T.d_with_field.2 sc len (fun _ _ _ _ _ _ us hl => match us, hl with | [_, _], _ => rfl) fun cdv A outer s H vs Q E hr hs => ⟨_, PSs.nox (pss_one (ps_ret (pe_op op_cat (pv 0) (pe_lst (pa_cons (pv 1) pa_nil))))), ?_⟩
  obtain ⟨⟨fs, x⟩, hf, i, k⟩ := hs
  obtain ⟨x0, x1, rfl, h0, h1⟩ := i.a2
  dsimp only at hf h0 h1 k
  refine s_retD (EvD.eq (ed_cat (ed_var rfl h0) (ed_lst (ad1 (ed_var rfl h1)) (by simp)) (by simp; omega)) ?_) k
  rw [List.map_append]
  rfl
end with_field
namespace with_code
def sp (K : PySem.W.Frag) : Sp := spF K (fun a : List NX × NX × NC => a.1.length ≤ 1000 ∧ a.2.1.codes.length ≤ 1000) (fun a => [.lst ((a.1 ++ [a.2.1]).map fieldD), codeD a.2.2]) fun a => .lst ((a.1 ++ [{ a.2.1 with codes := a.2.1.codes ++ [a.2.2] }]).map fieldD)
theorem len : ∀ vs H Q E, sp K vs H Q E → vs.length = 2 := spF_len fun _ => rfl
abbrev sS : Stmt := s_with_code
abbrev nN : List PySem.Str := ["fields", "code", "last"]
theorem sc : FnScope nN ["fields", "code"] (defScope sS) := ⟨rfl, rfl, rfl, by decide +kernel, rfl, by decide +kernel, by decide +kernel⟩
theorem ok (T : Txt K mg) : Cal P w K mg base 3 "with_code" (sp K) [] := by
  have m_Field := Field_init.ok (P := P) (w := w) (base := base) T
  refine cal_of T.d_with_code.1 T.d_with_code.2 sc len (fun _ _ _ _ _ _ us hl => match us, hl with | [_, _], _ => rfl) fun cdv A outer s H vs Q E hr hs => ⟨_, PSs.nox (pss_cons (ps_set (i := 2) sc.nd rfl (Or.inl rfl) (pe_ix ix_list (pv 0) (pe_un un_neg pe_int) (fun _ _ => rfl))) (pss_one (ps_ret (pe_op op_cat (pe_slice sl_list (pv 0) po_none (po_some (pe_un un_neg pe_int))) (pe_lst (pa_cons (pe_mk m_Field hr (by decide) rfl (pa_cons (pe_fld (pv 2) rfl) (pa_cons (pe_fld (pv 2) rfl) (pa_cons (pe_op op_cat (pe_fld (pv 2) rfl) (pe_lst (pa_cons (pv 1) pa_nil))) pa_nil)))) pa_nil)))))), ?_⟩
  obtain ⟨⟨fs, x, c⟩, ⟨hf, hx⟩, i, k⟩ := hs
  obtain ⟨x0, x1, rfl, h0, h1⟩ := i.a2
  dsimp only at hf hx h0 h1 k
  refine q_asgD (ed_ix (d := fieldD x) (i := -1) (ed_var rfl h0) ev_m1 (by rw [List.map_append]; exact atI_last)) fun y H1 e1 iy => ?_
  have j0 := h0.mono e1
  have j1 := h1.mono e1
  refine s_retD' e1 (EvD.eq (ed_cat (ed_sl (ed_var rfl j0) eo_none (eo_some ev_m1)) (ed_lst (ad1 (ed_make (ad3 (ed_v (ed_field_name T (ed_var rfl iy))) (ed_v (ed_field_asked T (ed_var rfl iy)))
    (ed_cat (ed_field_codes T (ed_var rfl iy)) (ed_lst (ad1 (ed_var rfl j1)) (by simp)) (by simp; omega))) rfl)) (by simp)) ?_) ?_) k
  · have e : ((fs ++ [x]).map fieldD).length = fs.length + 1 := by simp
    rw [e, cut_m1, List.length_take, e]
    show min fs.length _ + 1 ≤ _
    omega
  · rw [show ((fs ++ [x]).map fieldD).length = fs.length + 1 by simp, cut_m1, List.map_append, List.map_append, List.take_left' (by simp)]
    show D.lst (fs.map fieldD ++ [_]) = D.lst (fs.map fieldD ++ [_])
    unfold fieldD
    rw [List.map_append]
    rfl
end with_code
end
end Nt

set_option maxHeartbeats 4000000
namespace Nt
open PySem PySem.Spec PyProof.Rows L2 Evl
open C8 (Cal Mak Met pe_c pe_mk pe_mt pe_mt0 pe_gc)
def wordD (w : Nat × List Nat) : D := .ins "Word" ["place", "signs"] [.i w.1, .v (.str (bS w.2))]
section
variable {P : Program} {w : World} {K : PySem.W.Frag} {mg : PySem.Str → Option Value} {base : Heap}
/-- words stand where a list is changed -/
theorem Is.wordU {H : Hp} {x : V} {v : Nat × List Nat} {p : Addr} {ys : List V} {o : HO} (h : Is K H x (wordD v)) (hp : H p = some (.lst ys)) : Is K (upd H p o) x (wordD v) := by
  obtain ⟨a, dx, xs, rfl, ha, hl, hx⟩ := h.ins_inv
  obtain ⟨y0, y1, rfl, i0, i1⟩ := hx.a2
  have ne : a ≠ p := fun z => by rw [z, hp] at ha; cases ha
  cases i0.val
  cases i1.val
  exact .ins (xs := [_, _]) (by rw [upd_ne ne]; exact ha) rfl (.cons (.v _) (.cons (.v _) .nil))
theorem IsL.wordU {H : Hp} {p : Addr} {ys : List V} {o : HO} (hp : H p = some (.lst ys)) : ∀ {xs : List V} {ws : List (Nat × List Nat)}, IsL K H xs (ws.map wordD) → IsL K (upd H p o) xs (ws.map wordD)
  | _, [], h => by
    have := h.z0
    subst this
    exact .nil
  | _, w :: ws, h => by
    obtain ⟨x, r, rfl, h1, h2⟩ := h.c1
    exact .cons (Is.wordU h1 hp) (IsL.wordU hp h2)
/-- over enumerate(a new list) -/
theorem s_forEN {σ : L2.St} {H : Hp} {tl : TE} {tu : TS} {D1 : Ends} {zs : List V} {j m : Nat} (h : EvL tl σ H zs) (Pv : Addr → Nat → L2.St → Hp → Prop) (h0 : ∀ p H1, H p = none → Ex H H1 → H1 p = some (.lst zs) → Pv p 0 σ H1) (hl : ∀ p i σ' H', Pv p i σ' H' → H' p = some (.lst zs))
    (hs : ∀ p i x σ' Ha Hb, zs[i]? = some x → Pv p i σ' Ha → (∃ T o, Ha T = none ∧ Hb = upd Ha T o) → tu { D1 with nx := Pv p (i + 1), ct := Pv p (i + 1), bk := D1.nx } ((σ'.set j (some (.int (i : Nat)))).set m (some x)) Hb) (hd : ∀ p σ' H', Pv p zs.length σ' H' → D1.nx σ' H') :
    tFor (iEnum K (tCons tl tNil)) (gTup K 2 (gCons (gName j) (gCons (gName m) gNil))) tu D1 σ H := h H (Ex.refl H) _ fun p H1 hp e1 h1 => by
  refine ⟨p, zs, rfl, .inl (.inl h1), for_it (walk_enum (K := K) (a := p) (xs := zs)) (Pv p) (h0 p H1 hp e1 h1) (fun i σ' H' _ q => .inl (.inl (hl p i σ' H' q))) (fun i x σ' Ha Hb hi q y => ?_) fun σ' H' q => hd p σ' H' q⟩
  obtain ⟨T, n, y, rfl, hT, rfl, e1, e2⟩ := y
  cases e1
  exact ⟨T, _, rfl, .inl (.inl upd_same), rfl, _, _, rfl, _, _, rfl, rfl, hs p i y σ' Ha _ e2 q ⟨T, _, hT, rfl⟩⟩
namespace words_of_line
def sp (K : PySem.W.Frag) : Sp := spF K (fun a : List Nat × Nat => a.1.length ≤ 20000) (fun a => [.v (.str (bS a.1)), .i a.2]) fun a => .lst ((wl a.2 (splitOn 32 a.1)).map wordD)
theorem len : ∀ vs H Q E, sp K vs H Q E → vs.length = 2 := spF_len fun _ => rfl
abbrev sS : Stmt := s_words_of_line
abbrev nN : List PySem.Str := ["line", "place", "words", "signs"]
theorem sc : FnScope nN ["line", "place"] (defScope sS) := ⟨rfl, rfl, rfl, by decide +kernel, rfl, by decide +kernel, by decide +kernel⟩
theorem ok (T : Txt K mg) : Cal P w K mg base 3 "words_of_line" (sp K) [] := by
  have m_Word := Word_init.ok (P := P) (w := w) (base := base) T
  refine cal_of T.d_words_of_line.1 T.d_words_of_line.2 sc len (fun _ _ _ _ _ _ us hl => match us, hl with | [_, _], _ => rfl) fun cdv A outer s H vs Q E hr hs => ⟨_, PSs.nox (pss_cons (ps_set (i := 2) sc.nd rfl (Or.inl rfl) (pe_lst pa_nil)) (pss_cons (ps_for PassesOwn.never rfl (pi_list (pe_split (pv 0) pe_str)) (pg_name (i := 3) sc.nd rfl (Or.inl rfl)) (pss_cons (ps_expr (pe_bm PySem.F.plainAttrs_list PySem.F.slot_list_append PySem.F.type_list_append mt_append (pv 2) (pa_cons (pe_mk m_Word hr (by decide) rfl (pa_cons (pv 1) (pa_cons (pv 3) pa_nil))) pa_nil))) (pss_one (ps_aug (i := 1) sc.nd rfl (Or.inl rfl) (pe_op op_add (pe_callB call_len_str (by rfl) T.f_len PySem.boot_len (pa_cons (pv 3) pa_nil)) pe_int) ip_add)))) (pss_one (ps_ret (pv 2))))), ?_⟩
  obtain ⟨⟨l, p0⟩, hl, i, k⟩ := hs
  obtain ⟨x0, x1, rfl, h0, h1⟩ := i.a2
  cases h0.val
  cases h1.val
  dsimp only at hl k
  have sl := splitOn_len 32 l
  refine q_asgL (el_lst ea_nil (by simp)) fun p H1 hp e1 hp1 => ?_
  refine q_forNLn (el_split (a := l) (s := 32) (ev_var rfl) ev_c (by decide) (by omega)) (fun q i σ' H' => (Ex H H' ∧ p ≠ q ∧ H' q = some (.lst ((splitOn 32 l).map fun w => V.str (bS w)))) ∧ ∃ xs, H' p = some (.lst xs) ∧ IsL K H' xs ((wl p0 ((splitOn 32 l).take i)).map wordD) ∧
    ∃ u, σ' = [some (.str (bS l)), some (.int (wlEnd p0 ((splitOn 32 l).take i) : Nat)), some (.ref p), u]) (fun q H2 hq e2 hq2 => ⟨⟨e1.trans e2, (fun z => by rw [z] at hp1; rw [hq] at hp1; cases hp1), hq2⟩, [], e2 _ _ hp1, .nil, none, rfl⟩) (fun q i σ' H' _ p => sq_of p.1.2.2) ?_ ?_
  · rintro q i x σ' H' hx ⟨⟨ex, ne, hq⟩, xs, hxs, wx, u, rfl⟩
    rw [List.getElem?_map] at hx
    cases hw : (splitOn 32 l)[i]? with
    | none => rw [hw] at hx; cases hx
    | some v =>
      rw [hw] at hx
      cases hx
      have hi := (List.getElem?_eq_some_iff.mp hw).1
      have ve : (splitOn 32 l)[i] = v := (List.getElem?_eq_some_iff.mp hw).2
      have vl : v.length ≤ l.length := splitOn_mem (ve ▸ List.getElem_mem hi)
      have et : (splitOn 32 l).take (i + 1) = (splitOn 32 l).take i ++ [v] := by rw [List.take_succ_eq_append_getElem hi, ve]
      have xl : xs.length = i := by rw [wx.length, List.length_map, wl_length, List.length_take]; omega
      refine s_appD (D1 := _) hxs (ev_var rfl) (ed_make (c := "Word") (ns := ["place", "signs"]) (ad2 (ed_v (ev_var rfl)) (ed_v (ev_var rfl))) rfl) (by omega) fun z H2 e2 iz => ?_
      refine s_aug rfl (ev_add (ev_lenS (ev_var rfl) (by omega)) ev_c) fun H3 e3 => ?_
      have ep : Ex H (upd H2 p (.lst (xs ++ [z]))) := Ex.mut (ex.trans e2) hp
      refine ⟨⟨ep.trans e3, ne, e3 _ _ (by rw [upd_ne ne.symm]; exact e2 _ _ hq)⟩, xs ++ [z], e3 _ _ upd_same, ?_, some (.str (bS v)), ?_⟩
      · rw [et, wl_snoc, List.map_append]
        exact ((IsL.wordU (e2 _ _ hxs) (wx.mono e2)).append (IsL.one (Is.wordU (v := (wlEnd p0 ((splitOn 32 l).take i), v)) iz (e2 _ _ hxs)))).mono e3
      · rw [et, wlEnd_snoc]
        rfl
  · rintro q σ' H' ⟨⟨ex, ne, hq⟩, xs, hxs, wx, u, rfl⟩
    rw [List.length_map] at wx
    refine s_retD' ex (ed_var rfl ?_) k
    rw [List.take_of_length_le (Nat.le_refl _)] at wx
    show Is K H' (.ref p) (.lst ((wl p0 (splitOn 32 l)).map wordD))
    exact .lst hxs wx
end words_of_line
namespace words_of
def sp (K : PySem.W.Frag) : Sp := spF K (fun a : List Nat => a.length ≤ 2000) (fun a => [.v (.str (bS a))]) fun a => .lst ((wf true 0 (splitOn 10 a)).map wordD)
theorem len : ∀ vs H Q E, sp K vs H Q E → vs.length = 1 := spF_len fun _ => rfl
theorem wf_len : ∀ (b : Bool) (p : Nat) (ls : List (List Nat)), (wf b p ls).length ≤ (ls.map fun l => l.length + 2).sum
  | _, _, [] => by cases ‹Bool› <;> exact Nat.le_refl _
  | true, p, l :: r => by
    show (wl p (splitOn 32 l) ++ wf false (p + l.length) r).length ≤ _
    have ih := wf_len false (p + l.length) r
    have := splitOn_len 32 l
    rw [List.length_append, wl_length, List.map_cons, List.sum_cons]
    omega
  | false, p, l :: r => by
    show ((p, [10]) :: (wl (p + 1) (splitOn 32 l) ++ wf false (p + 1 + l.length) r)).length ≤ _
    have ih := wf_len false (p + 1 + l.length) r
    have := splitOn_len 32 l
    rw [List.length_cons, List.length_append, wl_length, List.map_cons, List.sum_cons]
    omega
theorem sum_add_one (ls : List (List Nat)) : (ls.map fun l => l.length + 2).sum = (ls.map fun l => l.length + 1).sum + ls.length := by
  induction ls with
  | nil => rfl
  | cons a r ih => rw [List.map_cons, List.map_cons, List.sum_cons, List.sum_cons, ih, List.length_cons]; omega
theorem sum_take (ls : List (List Nat)) (i : Nat) : ((ls.take i).map fun l => l.length + 2).sum ≤ (ls.map fun l => l.length + 2).sum := by
  induction ls generalizing i with
  | nil => simp
  | cons a r ih =>
    cases i with
    | zero => simp
    | succ i =>
      rw [List.take_succ_cons, List.map_cons, List.map_cons, List.sum_cons, List.sum_cons]
      exact Nat.add_le_add_left (ih i) _
abbrev sS : Stmt := s_words_of
abbrev nN : List PySem.Str := ["signs", "words", "place", "number", "line"]
theorem sc : FnScope nN ["signs"] (defScope sS) := ⟨rfl, rfl, rfl, by decide +kernel, rfl, by decide +kernel, by decide +kernel⟩
theorem ok (T : Txt K mg) : Cal P w K mg base 4 "words_of" (sp K) [] := by
  have d_words_of_line := words_of_line.ok (P := P) (w := w) (base := base) T
  have m_Word := Word_init.ok (P := P) (w := w) (base := base) T
  refine cal_of T.d_words_of.1 T.d_words_of.2 sc len (fun _ _ _ _ _ _ us hl => match us, hl with | [_], _ => rfl) fun cdv A outer s H vs Q E hr hs => ⟨_, PSs.nox (pss_cons (ps_set (i := 1) sc.nd rfl (Or.inl rfl) (pe_lst pa_nil)) (pss_cons (ps_set (i := 2) sc.nd rfl (Or.inl rfl) pe_int) (pss_cons (ps_for PassesOwn.never rfl (pi_enum (by rfl) T.f_enumerate (pa_cons (pe_split (pv 0) (pe_gc rfl T.c_LINE_END)) pa_nil)) (pg_tup rfl (pgs_cons (pg_name (i := 3) sc.nd rfl (Or.inl rfl)) (pgs_cons (pg_name (i := 4) sc.nd rfl (Or.inl rfl)) pgs_nil))) (pss_cons (ps_if (pt_cmpR op_gt (pv 3) pe_int (nomark _)) (pss_cons (ps_expr (pe_bm PySem.F.plainAttrs_list PySem.F.slot_list_append PySem.F.type_list_append mt_append (pv 1) (pa_cons (pe_mk m_Word hr (by decide) rfl (pa_cons (pv 2) (pa_cons (pe_gc rfl T.c_LINE_END) pa_nil))) pa_nil))) (pss_one (ps_aug (i := 2) sc.nd rfl (Or.inl rfl) pe_int ip_add))) pss_nil) (pss_cons (ps_expr (pe_bm PySem.F.plainAttrs_list PySem.F.slot_list_extend PySem.F.type_list_extend mt_extend (pv 1) (pa_cons (pe_c d_words_of_line hr (by decide) rfl (pa_cons (pv 4) (pa_cons (pv 2) pa_nil))) pa_nil))) (pss_one (ps_aug (i := 2) sc.nd rfl (Or.inl rfl) (pe_callB call_len_str (by rfl) T.f_len PySem.boot_len (pa_cons (pv 4) pa_nil)) ip_add))))) (pss_one (ps_ret (pv 1)))))), ?_⟩
  obtain ⟨t, ht, i, k⟩ := hs
  obtain ⟨x0, rfl, h0⟩ := i.a1
  cases h0.val
  dsimp only at ht k
  have sl := splitOn_len 10 t
  have wb : ∀ i, (wf true 0 ((splitOn 10 t).take i)).length ≤ 4002 := fun i => by
    have h1 := wf_len true 0 ((splitOn 10 t).take i)
    have h2 := sum_take (splitOn 10 t) i
    have h3 := sum_add_one (splitOn 10 t)
    rw [splitOn_sum] at h3
    omega
  refine q_asgL (el_lst ea_nil (by simp)) fun p H1 hp e1 hp1 => ?_
  refine q_asg ev_c fun H2 e2 => ?_
  have hp2 := e2 _ _ hp1
  refine s_forEN (el_split (a := t) (s := 10) (ev_var rfl) ev_c (by decide) (by omega)) (fun a i σ' H' => (Ex H H' ∧ p ≠ a ∧ H' a = some (.lst ((splitOn 10 t).map fun w => V.str (bS w)))) ∧ ∃ xs, H' p = some (.lst xs) ∧ IsL K H' xs ((wf true 0 ((splitOn 10 t).take i)).map wordD) ∧
    ∃ u v, σ' = [some (.str (bS t)), some (.ref p), some (.int (wfEnd true 0 ((splitOn 10 t).take i) : Nat)), u, v])
    (fun a H3 ha e3 ha3 => ⟨⟨(e1.trans e2).trans e3, (fun z => by rw [z] at hp2; rw [ha] at hp2; cases hp2), ha3⟩, [], e3 _ _ hp2, .nil, none, none, rfl⟩) (fun a i σ' H' q => q.1.2.2) ?_ ?_
  · rintro a i x σ' Ha Hb hx ⟨⟨ex, ne, hla⟩, xs, hxs, wx, u, v, rfl⟩ ⟨T1, o, hT, rfl⟩
    rw [List.getElem?_map] at hx
    cases hw : (splitOn 10 t)[i]? with
    | none => rw [hw] at hx; cases hx
    | some l =>
      rw [hw] at hx
      cases hx
      have hi := (List.getElem?_eq_some_iff.mp hw).1
      have ve : (splitOn 10 t)[i] = l := (List.getElem?_eq_some_iff.mp hw).2
      have vl : l.length ≤ t.length := splitOn_mem (ve ▸ List.getElem_mem hi)
      have et : (splitOn 10 t).take (i + 1) = (splitOn 10 t).take i ++ [l] := by rw [List.take_succ_eq_append_getElem hi, ve]
      have xl : xs.length ≤ 4002 := by rw [wx.length, List.length_map]; exact wb i
      have xl2 := wb (i + 1)
      have eT : Ex Ha (upd Ha T1 o) := Ex.new hT
      rw [et] at xl2
      refine s_if (b := decide (0 < i)) (et_is (et_gt (ev_var rfl) ev_c) (by simp)) (fun z H3 e3 => ?_) fun z H3 e3 => ?_
      · have z0 : 0 < i := of_decide_eq_true z
        have hne : (splitOn 10 t).take i ≠ [] := fun q => by
          have := congrArg List.length q
          rw [List.length_take] at this
          simp only [List.length_nil] at this
          omega
        rw [wf_snoc hne, List.length_append, List.length_cons] at xl2
        have e4 := eT.trans e3
        refine s_appD (D1 := _) (e4 _ _ hxs) (ev_var rfl) (ed_make (c := "Word") (ns := ["place", "signs"]) (ad2 (ed_v (ev_var rfl)) (ed_v ev_c)) rfl) (by omega) fun zw H4 e5 iz => ?_
        have e6 := e4.trans e5
        refine s_aug rfl ev_c fun H5 e7 => ?_
        have p1 : Ex H (upd H4 p (.lst (xs ++ [zw]))) := Ex.mut (ex.trans e6) hp
        have w1 : IsL K H5 (xs ++ [zw]) ((wf true 0 ((splitOn 10 t).take i) ++ [(wfEnd true 0 ((splitOn 10 t).take i), [10])]).map wordD) := by
          rw [List.map_append]
          exact ((IsL.wordU (e6 _ _ hxs) (wx.mono e6)).append (IsL.one (Is.wordU (v := (wfEnd true 0 ((splitOn 10 t).take i), [10])) iz (e6 _ _ hxs)))).mono e7
        have l1 : H5 p = some (.lst (xs ++ [zw])) := e7 _ _ upd_same
        have a1 : H5 a = some (.lst ((splitOn 10 t).map fun w => V.str (bS w))) := e7 _ _ (by rw [upd_ne ne.symm]; exact e6 _ _ hla)
        refine s_extD (D1 := _) l1 (ev_var rfl) (ed_callF (l, wfEnd true 0 ((splitOn 10 t).take i) + 1) (ad2 (ed_v (ev_var rfl)) (ed_v (ev_var rfl))) (by show l.length ≤ _; omega)) (by
          have := splitOn_len 32 l
          show (xs ++ [zw]).length + (List.map wordD (wl _ (splitOn 32 l))).length ≤ _
          rw [List.length_append, List.length_map, wl_length, List.length_singleton]
          omega) fun zs H6 e8 iz2 => ?_
        refine s_aug rfl (ev_lenS (ev_var rfl) (by omega)) fun H7 e9 => ?_
        refine ⟨⟨(Ex.mut ((p1.trans e7).trans e8) hp).trans e9, ne, e9 _ _ (by rw [upd_ne ne.symm]; exact e8 _ _ a1)⟩, (xs ++ [zw]) ++ zs, e9 _ _ upd_same, ?_, some (.int i), some (.str (bS l)), ?_⟩
        · have w2 := ((IsL.wordU (o := .lst ((xs ++ [zw]) ++ zs)) (e8 _ _ l1) (w1.mono e8)).append (IsL.wordU (ws := wl (wfEnd true 0 ((splitOn 10 t).take i) + 1) (splitOn 32 l)) (e8 _ _ l1) iz2)).mono e9
          rw [← List.map_append] at w2
          rw [et, wf_snoc hne]
          rw [List.append_assoc (wf true 0 _)] at w2
          exact w2
        · rw [et, wfEnd_snoc hne]
          rfl
      · have z0 : i = 0 := by have := of_decide_eq_false z; omega
        subst z0
        have e4 := eT.trans e3
        have x0 : xs = [] := by
          have := wx.length
          rw [List.take_zero] at this
          exact List.length_eq_zero_iff.mp this
        subst x0
        refine s_extD (D1 := _) (e4 _ _ hxs) (ev_var rfl) (ed_callF (l, 0) (ad2 (ed_v (ev_var rfl)) (ed_v (ev_var rfl))) (by show l.length ≤ _; omega)) (by
          have := splitOn_len 32 l
          show 0 + (List.map wordD (wl _ (splitOn 32 l))).length ≤ _
          rw [List.length_map, wl_length]
          omega) fun zs H4 e5 iz => ?_
        refine s_aug rfl (ev_lenS (ev_var rfl) (by omega)) fun H5 e6 => ?_
        have e7 := e4.trans e5
        refine ⟨⟨(Ex.mut (ex.trans e7) hp).trans e6, ne, e6 _ _ (by rw [upd_ne ne.symm]; exact e7 _ _ hla)⟩, zs, e6 _ _ upd_same, ?_, some (.int 0), some (.str (bS l)), ?_⟩
        · rw [et]
          show IsL K H5 zs ((wl 0 (splitOn 32 l) ++ []).map wordD)
          rw [List.append_nil]
          exact (IsL.wordU (ws := wl 0 (splitOn 32 l)) (e7 _ _ hxs) iz).mono e6
        · rw [et]
          show _ = [_, _, some (V.int ((0 + l.length : Nat) : Int)), _, _]
          rw [Nat.zero_add]
          show [_, _, some (V.int ((0 : Int) + (l.length : Int))), _, _] = _
          rw [Int.zero_add]
          rfl
  · rintro a σ' H' ⟨⟨ex, ne, hla⟩, xs, hxs, wx, u, v, rfl⟩
    rw [List.length_map] at wx
    refine s_retD' ex (ed_var rfl ?_) k
    rw [List.take_of_length_le (Nat.le_refl _)] at wx
    show Is K H' (.ref p) (.lst ((wf true 0 (splitOn 10 t)).map wordD))
    exact .lst hxs wx
end words_of
/-- the signs in the table of right ones -/
def SIG : List Nat := [10, 32, 48, 49, 50, 51, 52, 53, 54, 55, 56, 57, 97, 98, 99, 100, 101, 102, 103, 104, 105, 106, 107, 108, 109, 110, 111, 112, 113, 114, 115, 116, 117, 118, 119, 120, 121, 122]
theorem sig_str : ("\n 0123456789abcdefghijklmnopqrstuvwxyz" : PySem.Str) = bS SIG := by decide +kernel
def sigT (l : List Nat) : List (Key × V) := l.foldl (fun kvs c => putK kvs (Sum.inl ((c : Nat) : Int) : Key) (.str (bS [c]))) []
theorem sigT_val : ∀ (l : List Nat) (kvs : List (Key × V)) (b : Nat), valV (l.foldl (fun kvs c => putK kvs (Sum.inl ((c : Nat) : Int) : Key) (.str (bS [c]))) kvs) (Sum.inl ((b : Nat) : Int) : Key) = if b ∈ l then some (.str (bS [b])) else valV kvs (Sum.inl ((b : Nat) : Int) : Key)
  | [], _, _ => rfl
  | c :: r, kvs, b => by
    rw [List.foldl_cons, sigT_val r, valV_put]
    by_cases h : b ∈ r
    · rw [if_pos h, if_pos (List.mem_cons_of_mem _ h)]
    · rw [if_neg h]
      by_cases q : b = c
      · subst q
        rw [if_pos rfl, if_pos List.mem_cons_self]
      · rw [if_neg (fun z => q (by injection z with z; omega)), if_neg (fun z => by rcases List.mem_cons.mp z with z | z; exact q z; exact h z)]
theorem sig_known : ∀ b ∈ List.range 256, decide (b ∈ SIG) = known b := by decide +kernel
theorem putK_len (kvs : List (Key × V)) (k : Key) (v : V) : (putK kvs k v).length ≤ kvs.length + 1 := by
  unfold putK
  split <;> simp
theorem sigT_len : ∀ (l : List Nat) (kvs : List (Key × V)), (l.foldl (fun kvs c => putK kvs (Sum.inl ((c : Nat) : Int) : Key) (.str (bS [c]))) kvs).length ≤ kvs.length + l.length
  | [], _ => Nat.le_refl _
  | c :: r, kvs => by
    rw [List.foldl_cons, List.length_cons]
    have := sigT_len r (putK kvs (Sum.inl ((c : Nat) : Int) : Key) (.str (bS [c])))
    have := putK_len kvs (Sum.inl ((c : Nat) : Int) : Key) (.str (bS [c]))
    omega
theorem sgn_get {b : Nat} (h : b < 256) : ((valV (sigT SIG) (Sum.inl ((b : Nat) : Int) : Key)).getD (.str (bS [63]))) = .str (bS [sgn b]) := by
  unfold sigT
  rw [sigT_val]
  have := sig_known b (List.mem_range.mpr h)
  unfold sgn
  rw [← this]
  by_cases q : b ∈ SIG
  · rw [if_pos q, if_pos (decide_eq_true q)]
    rfl
  · rw [if_neg q, if_neg (by rw [decide_eq_false q]; decide)]
    rfl
namespace signs_of
def sp (K : PySem.W.Frag) : Sp := spF K (fun a : List Nat => a.length ≤ 2000 ∧ ∀ b ∈ a, b < 256) (fun a => [natsD a]) fun a => .v (.str (bS (a.map sgn)))
theorem len : ∀ vs H Q E, sp K vs H Q E → vs.length = 1 := spF_len fun _ => rfl
abbrev sS : Stmt := s_signs_of
abbrev nN : List PySem.Str := ["text", "known", "sign", "byte"]
theorem sc : FnScope nN ["text"] (defScope sS) := ⟨rfl, rfl, rfl, by decide +kernel, rfl, by decide +kernel, by decide +kernel⟩
theorem ok (T : Txt K mg) : Cal P w K mg base 1 "signs_of" (sp K) [] := by
  refine cal_of T.d_signs_of.1 T.d_signs_of.2 sc len (fun _ _ _ _ _ _ us hl => match us, hl with | [_], _ => rfl) fun cdv A outer s H vs Q E hr hs => ⟨_, PSs.nox (pss_cons (ps_set (i := 1) sc.nd rfl (Or.inr rfl) pe_dnewK) (pss_cons (ps_for PassesOwn.never rfl (pi_str (pe_gc rfl T.c_SIGNS)) (pg_name (i := 2) sc.nd rfl (Or.inl rfl)) (pss_one (ps_dput (hu_of hr) (pv 1) (pe_callB call_ord (by rfl) T.f_ord (by decide +kernel) (pa_cons (pv 2) pa_nil)) (pv 2) rfl))) (pss_one (ps_ret (pe_join pe_str (pe_lc (own := [("byte", 3)]) (g := (gName 3)) (tt := tYes) rfl sc.nd (pi_list (pv 0)) (blkOk_by (own := [("byte", 3)]) (N := nN) (sc := defScope sS) (by decide +kernel)) (fun _ _ _ _ _ => pg_name (i := 3) sc.nd rfl (Or.inl rfl)) (fun _ _ _ _ _ => pts_nil) (fun _ _ _ _ _ => (pe_dget2 (hu_of hr) (pv 1) (pv 3) (pe_gc rfl T.c_OTHER_SIGN) ⟨by rfl, by rfl, by rfl, by rfl⟩)))))))), ?_⟩
  obtain ⟨t, ⟨ht, hb⟩, i, k⟩ := hs
  obtain ⟨x0, rfl, h0⟩ := i.a1
  refine s_dnewK fun p hp => ?_
  have e1 : Ex H (upd H p (.dK [])) := Ex.new hp
  refine s_forStr (z := SIG) (ev_is ev_c (by rw [sig_str])) (fun i σ' H' => Ex H H' ∧ H' p = some (.dK (sigT (SIG.take i))) ∧ ∃ u v, σ' = [some x0, some (.ref p), u, v]) (fun H1 e2 => ⟨e1.trans e2, e2 _ _ upd_same, none, none, rfl⟩) ?_ ?_
  · rintro i c σ' H' hc ⟨ex, hd, u, v, rfl⟩
    have hi := (List.getElem?_eq_some_iff.mp hc).1
    have ve : SIG[i] = c := (List.getElem?_eq_some_iff.mp hc).2
    have et : SIG.take (i + 1) = SIG.take i ++ [c] := by rw [List.take_succ_eq_append_getElem hi, ve]
    have hl := sigT_len (SIG.take i) []
    rw [List.length_take] at hl
    have hl2 : (sigT (SIG.take i)).length < sizeLine := by
      have h38 : SIG.length = 38 := rfl
      have h0 : ([] : List (Key × V)).length = 0 := rfl
      exact Nat.lt_of_le_of_lt (Nat.le_trans hl (by omega) : (sigT (SIG.take i)).length ≤ 38) (by decide)
    refine s_dputK (kvs := sigT (SIG.take i)) (k := (Sum.inl ((c : Nat) : Int) : Key)) (v := .str (bS [c])) (ev_var rfl) (ev_var rfl) (ev_ord (ev_var rfl)) hd hl2 fun H1 e1 => ?_
    refine ⟨Ex.mut (ex.trans e1) hp, ?_, _, _, rfl⟩
    rw [upd_same, et]
    unfold sigT
    rw [List.foldl_append]
    rfl
  · rintro σ' H' ⟨ex, hd, u, v, rfl⟩
    have hd2 : H' p = some (.dK (sigT SIG)) := by
      rw [List.take_of_length_le (Nat.le_refl _)] at hd
      exact hd
    refine s_retD' ex (EvD.eq (ed_v (ev_join (a := []) (ys := (t.map sgn).map fun c => [c]) ev_c ?_ ?_)) ?_) k
    · rw [List.map_map, List.map_map]
      have := el_lcM (K := K) (l := t) (fD := fun n => D.v (.int (n : Nat))) (u := fun b => V.str (bS [sgn b])) (H := H') (te := tDGet2 (tVar 1) (tVar 3) (tC (.str "?"))) (tl := tVar 0) (σ := [some x0, some (.ref p), u, v]) (vs := [3]) (j := 3) (ed_var rfl (h0.mono ex)) (by omega) (fun _ => rfl) fun i a x H2 e2 ha ia => ?_
      · exact this
      · cases ia.val
        have hb2 := hb a (List.mem_of_getElem? ha)
        refine ev_dget2 (kvs := sigT SIG) (k := (Sum.inl ((a : Nat) : Int) : Key)) (ev_var rfl) (ev_var rfl) ev_c (e2 _ _ hd2) ?_
        exact sgn_get hb2
    · have : ((List.map (fun c => [c]) (t.map sgn)).map (·.length)).sum = t.length := by
        rw [List.map_map, List.map_map]
        clear hb k hd hd2 ex h0 i hp e1
        induction t with
        | nil => rfl
        | cons a r ih => rw [List.map_cons, List.sum_cons, ih (by simp at ht; omega), List.length_cons]; show 1 + _ = _; omega
      rw [this]
      show t.length + _ * 0 ≤ _
      omega
    · rw [between_ones]
end signs_of
namespace is_name
def sp (K : PySem.W.Frag) : Sp := spF K (fun a : List Nat => a.length ≤ 2000 ∧ ∀ b ∈ a, okc b = true) (fun a => [.v (.str (bS a))]) fun a => .v (.bl (VbenCore.isName a))
theorem len : ∀ vs H Q E, sp K vs H Q E → vs.length = 1 := spF_len fun _ => rfl
abbrev sS : Stmt := s_is_name
abbrev nN : List PySem.Str := ["signs"]
theorem sc : FnScope nN ["signs"] (defScope sS) := ⟨rfl, rfl, rfl, by decide +kernel, rfl, by decide +kernel, by decide +kernel⟩
theorem ok (T : Txt K mg) : Cal P w K mg base 1 "is_name" (sp K) [] := by
  refine cal_of T.d_is_name.1 T.d_is_name.2 sc len (fun _ _ _ _ _ _ us hl => match us, hl with | [_], _ => rfl) fun cdv A outer s H vs Q E hr hs => ⟨_, PSs.nox (pss_one (ps_ret (pe_and (pe_m0 PySem.F.slot_str_isalpha PySem.F.type_str_isalpha mt_isalpha (pv 0)) (pe_one (pe_cmpR op_le (pe_callB call_len_str (by rfl) T.f_len PySem.boot_len (pa_cons (pv 0) pa_nil)) (pe_gc rfl T.c_MOST_LETTERS) (nomark _)))))), ?_⟩
  obtain ⟨t, ⟨ht, hb⟩, i, k⟩ := hs
  obtain ⟨x0, rfl, h0⟩ := i.a1
  cases h0.val
  refine s_retD (EvD.eq (ed_v (ev_andV (ev_alpha (ev_var rfl) hb) fun _ => ev_op (ev_lenS (ev_var rfl) (by omega)) ev_c rv_I0)) ?_) k
  congr 2
  unfold VbenCore.isName
  have e : (decide (((t.length : Nat) : Int) ≤ 12)) = decide (t.length ≤ 12) := by simp; omega
  rw [e]
  cases t with
  | nil => rfl
  | cons c r =>
    rw [decide_eq_true (by simp : c :: r ≠ []), decide_eq_true (by simp : 1 ≤ (c :: r).length), Bool.true_and, Bool.true_and, Bool.and_comm]
end is_name
namespace is_number
def sp (K : PySem.W.Frag) : Sp := spF K (fun a : List Nat × Nat => a.1.length ≤ 2000 ∧ (∀ b ∈ a.1, okc b = true) ∧ (a.2 = 60 ∨ a.2 = 1000 ∨ a.2 = 1000000)) (fun a => [.v (.str (bS a.1)), .i a.2]) fun a => .v (.bl (numOk a.1 a.2))
theorem len : ∀ vs H Q E, sp K vs H Q E → vs.length = 2 := spF_len fun _ => rfl
abbrev sS : Stmt := s_is_number
abbrev nN : List PySem.Str := ["signs", "greatest"]
theorem sc : FnScope nN ["signs", "greatest"] (defScope sS) := ⟨rfl, rfl, rfl, by decide +kernel, rfl, by decide +kernel, by decide +kernel⟩
theorem ok (T : Txt K mg) : Cal P w K mg base 1 "is_number" (sp K) [] := by
  refine cal_of T.d_is_number.1 T.d_is_number.2 sc len (fun _ _ _ _ _ _ us hl => match us, hl with | [_, _], _ => rfl) fun cdv A outer s H vs Q E hr hs => ⟨_, PSs.nox (pss_cons (ps_if (PW.pt (pw_or (pt_not (pt_val (pe_m0 PySem.F.slot_str_isdigit PySem.F.type_str_isdigit mt_isdigit (pv 0)))) (pw_or1 (pt_cmpR op_gt (pe_callB call_len_str (by rfl) T.f_len PySem.boot_len (pa_cons (pv 0) pa_nil)) (pe_callB call_len_str (by rfl) T.f_len PySem.boot_len (pa_cons (pe_callTy call_str_int (by rfl) T.f_str (by decide +kernel) (pa_cons (pv 1) pa_nil)) pa_nil)) (nomark _))))) (pss_one (ps_ret pe_bl)) pss_nil) (pss_cons (ps_if (PW.pt (pw_and (pt_cmpR op_gt (pe_callB call_len_str (by rfl) T.f_len PySem.boot_len (pa_cons (pv 0) pa_nil)) pe_int (nomark _)) (pw_and1 (pt_cmpR op_eq (pe_ix ix_str (pv 0) pe_int (fun _ _ => rfl)) pe_str (nomark _))))) (pss_one (ps_ret pe_bl)) pss_nil) (pss_one (ps_ret (pe_cmpR op_le (pe_callTy call_int_str (by rfl) T.f_int (by decide +kernel) (pa_cons (pv 0) pa_nil)) (pv 1) (nomark _)))))), ?_⟩
  obtain ⟨⟨t, n⟩, ⟨ht, hb, hn⟩, i, k⟩ := hs
  obtain ⟨x0, x1, rfl, h0, h1⟩ := i.a2
  cases h0.val
  cases h1.val
  dsimp only at ht hb hn k
  have hn6 : n ≤ 1000000 := by omega
  have hL : ∃ L, (VbenCore.natText n).length = L ∧ 1 ≤ L ∧ n < 10 ^ L ∧ L ≤ 300 := by
    rcases hn with rfl | rfl | rfl
    · exact ⟨2, by decide +kernel, by decide, by decide, by decide⟩
    · exact ⟨4, by decide +kernel, by decide, by decide, by decide⟩
    · exact ⟨7, by decide +kernel, by decide, by decide, by decide⟩
  obtain ⟨L, eL, hL1, hL2, hL3⟩ := hL
  rw [← isNum_eq hL1 hL2 hL3] at k
  refine q_when (b := decide ((t = [] ∨ t.all VbenCore.isDigit = false) ∨ L < t.length)) (et_is (et_or (et_not (et_test (ev_digit (ev_var rfl) hb))) fun _ => et_gt (ev_lenS (w := t) (ev_var rfl) (by omega)) (ev_lenS (w := VbenCore.natText n) (ev_strN (ev_var rfl) hn6) (by rw [eL]; omega))) ?_) (fun z H1 e1 => ?_) fun z H1 e1 => ?_
  · rw [eL]
    have e : decide ((L : Int) < (t.length : Nat)) = decide (L < t.length) := by simp
    rw [e]
    cases t with
    | nil => rfl
    | cons c r => cases q : (c :: r).all VbenCore.isDigit <;> by_cases q2 : L < (c :: r).length <;> simp [q2]
  · refine s_retD' e1 (EvD.eq (ed_v ev_c) ?_) k
    unfold isNumP
    rw [if_pos (of_decide_eq_true z)]
  · have z1 := of_decide_eq_false z
    refine q_when (b := decide (1 < t.length ∧ t.head? = some 48)) (et_is (et_and (a := decide (1 < t.length)) (b := decide (t.head? = some 48)) (et_is (et_gt (ev_lenS (w := t) (ev_var rfl) (by omega)) ev_c) (by simp; omega)) fun z2 => ?_) (by simp)) (fun z2 H2 e2 => ?_) fun z2 H2 e2 => ?_
    · cases t with
      | nil => cases z2
      | cons c r => exact et_is (et_eqS (a := [c]) (b := [48]) (ev_ixS (w := c :: r) (i := 0) (ev_var rfl) ev_c (by omega) (atI_nat' (j := 0) rfl)) ev_c) (by simp)
    · refine s_retD' (e1.trans e2) (EvD.eq (ed_v ev_c) ?_) k
      unfold isNumP
      rw [if_neg z1, if_pos (of_decide_eq_true z2)]
    · have d1 : t.all VbenCore.isDigit = true := by
        cases q : t.all VbenCore.isDigit with
        | true => rfl
        | false => exact absurd (.inl (.inr q)) z1
      refine s_retD' (e1.trans e2) (EvD.eq (ed_v (ev_op (ev_intS (ev_var rfl) d1 (fun q => z1 (.inl (.inl q))) (Nat.le_trans (Nat.le_of_not_lt fun q => z1 (.inr q)) (by omega))) (ev_var rfl) rv_I0)) ?_) k
      unfold isNumP
      rw [if_neg z1, if_neg (of_decide_eq_false z2)]
      congr 2
      simp
end is_number
namespace field_line
def sp (K : PySem.W.Frag) : Sp := spF K (fun a : NX => OkX a) (fun a => [fieldD a]) fun a => .v (.str (bS (Vbenaj.lineText (.field a.name a.asked))))
theorem len : ∀ vs H Q E, sp K vs H Q E → vs.length = 1 := spF_len fun _ => rfl
abbrev sS : Stmt := s_field_line
abbrev nN : List PySem.Str := ["field"]
theorem sc : FnScope nN ["field"] (defScope sS) := ⟨rfl, rfl, rfl, by decide +kernel, rfl, by decide +kernel, by decide +kernel⟩
theorem ok (T : Txt K mg) : Cal P w K mg base 1 "field_line" (sp K) [] := by
  refine cal_of T.d_field_line.1 T.d_field_line.2 sc len (fun _ _ _ _ _ _ us hl => match us, hl with | [_], _ => rfl) fun cdv A outer s H vs Q E hr hs => ⟨_, PSs.nox (pss_one (ps_ret (pe_join pe_str (pe_lst (pa_cons pe_str (pa_cons (pe_fld (pv 0) rfl) (pa_cons pe_str (pa_cons (pe_callTy call_str_int (by rfl) T.f_str (by decide +kernel) (pa_cons (pe_fld (pv 0) rfl) pa_nil)) pa_nil)))))))), ?_⟩
  obtain ⟨x, hx, i, k⟩ := hs
  obtain ⟨x0, rfl, h0⟩ := i.a1
  have h1 := natText_len (n := x.asked) (k := 4) (by decide) (by have := hx.a; omega)
  have h2 := hx.n2
  refine s_retD (EvD.eq (ed_v (ev_join (a := [32]) (ys := [Vbenaj.W "field", x.name, Vbenaj.W "asked", VbenCore.natText x.asked]) (ev_is ev_c (by decide +kernel)) (el_lst (ea_cons (ev_is ev_c (by decide +kernel)) (ea_cons (ed_field_name T (ed_var rfl h0)) (ea_cons (ev_is ev_c (by decide +kernel)) (ea_cons (ev_strN (ed_field_asked T (ed_var rfl h0)) (by have := hx.a; omega)) ea_nil)))) (by simp)) ?_)) rfl) k
  have e1 : (Vbenaj.W "field").length = 5 := by decide +kernel
  have e2 : (Vbenaj.W "asked").length = 5 := by decide +kernel
  simp only [List.map_cons, List.map_nil, List.sum_cons, List.sum_nil, e1, e2, List.length_cons, List.length_nil]
  omega
end field_line
namespace code_line
def sp (K : PySem.W.Frag) : Sp := spF K (fun a : NC => OkC a) (fun a => [codeD a]) fun a => .v (.str (bS (Vbenaj.lineText (.code a))))
theorem len : ∀ vs H Q E, sp K vs H Q E → vs.length = 1 := spF_len fun _ => rfl
abbrev sS : Stmt := s_code_line
abbrev nN : List PySem.Str := ["code"]
theorem sc : FnScope nN ["code"] (defScope sS) := ⟨rfl, rfl, rfl, by decide +kernel, rfl, by decide +kernel, by decide +kernel⟩
theorem ok (T : Txt K mg) : Cal P w K mg base 1 "code_line" (sp K) [] := by
  refine cal_of T.d_code_line.1 T.d_code_line.2 sc len (fun _ _ _ _ _ _ us hl => match us, hl with | [_], _ => rfl) fun cdv A outer s H vs Q E hr hs => ⟨_, PSs.nox (pss_one (ps_ret (pe_join pe_str (pe_lst (pa_cons pe_str (pa_cons (pe_fld (pv 0) rfl) (pa_cons pe_str (pa_cons (pe_callTy call_str_int (by rfl) T.f_str (by decide +kernel) (pa_cons (pe_fld (pv 0) rfl) pa_nil)) (pa_cons pe_str (pa_cons (pe_callTy call_str_int (by rfl) T.f_str (by decide +kernel) (pa_cons (pe_fld (pv 0) rfl) pa_nil)) pa_nil)))))))))), ?_⟩
  obtain ⟨c, hc, i, k⟩ := hs
  obtain ⟨x0, rfl, h0⟩ := i.a1
  have h1 := natText_len (n := c.holes) (k := 4) (by decide) (by have := hc.h; omega)
  have h3 := natText_len (n := c.cost) (k := 7) (by decide) (by have := hc.k; omega)
  have h2 := hc.n2
  refine s_retD (EvD.eq (ed_v (ev_join (a := [32]) (ys := [Vbenaj.W "code", c.name, Vbenaj.W "holes", VbenCore.natText c.holes, Vbenaj.W "cost", VbenCore.natText c.cost]) (ev_is ev_c (by decide +kernel)) (el_lst (ea_cons (ev_is ev_c (by decide +kernel)) (ea_cons (ed_code_name T (ed_var rfl h0)) (ea_cons (ev_is ev_c (by decide +kernel)) (ea_cons (ev_strN (ed_code_holes T (ed_var rfl h0)) (by have := hc.h; omega)) (ea_cons (ev_is ev_c (by decide +kernel)) (ea_cons (ev_strN (ed_code_cost T (ed_var rfl h0)) hc.k) ea_nil)))))) (by simp)) ?_)) rfl) k
  have e1 : (Vbenaj.W "code").length = 4 := by decide +kernel
  have e2 : (Vbenaj.W "holes").length = 5 := by decide +kernel
  have e3 : (Vbenaj.W "cost").length = 4 := by decide +kernel
  simp only [List.map_cons, List.map_nil, List.sum_cons, List.sum_nil, e1, e2, e3, List.length_cons, List.length_nil]
  omega
end code_line
theorem lineText_field {x : NX} (hx : OkX x) : (Vbenaj.lineText (.field x.name x.asked)).length ≤ 40 := by
  have h1 := natText_len (n := x.asked) (k := 4) (by decide) (by have := hx.a; omega)
  have h2 := hx.n2
  have e1 : (Vbenaj.W "field").length = 5 := by decide +kernel
  have e2 : (Vbenaj.W "asked").length = 5 := by decide +kernel
  refine Nat.le_trans (between_len _ _) ?_
  unfold Vbenaj.num
  simp only [List.map_cons, List.map_nil, List.sum_cons, List.sum_nil, e1, e2, List.length_cons, List.length_nil]
  omega
theorem lineText_code {c : NC} (hc : OkC c) : (Vbenaj.lineText (.code c)).length ≤ 60 := by
  have h1 := natText_len (n := c.holes) (k := 4) (by decide) (by have := hc.h; omega)
  have h3 := natText_len (n := c.cost) (k := 7) (by decide) (by have := hc.k; omega)
  have h2 := hc.n2
  have e1 : (Vbenaj.W "code").length = 4 := by decide +kernel
  have e2 : (Vbenaj.W "holes").length = 5 := by decide +kernel
  have e3 : (Vbenaj.W "cost").length = 4 := by decide +kernel
  refine Nat.le_trans (between_len _ _) ?_
  unfold Vbenaj.num
  simp only [List.map_cons, List.map_nil, List.sum_cons, List.sum_nil, e1, e2, e3, List.length_cons, List.length_nil]
  omega
theorem fieldLines_len {x : NX} (hx : OkX x) : (∀ w ∈ Vbenaj.fieldLines x, w.length ≤ 60) ∧ (Vbenaj.fieldLines x).length ≤ 9 := by
  unfold Vbenaj.fieldLines
  constructor
  · intro w hw
    rcases List.mem_cons.mp hw with e | e
    · rw [e]
      have := lineText_field hx
      omega
    · obtain ⟨c, hc, rfl⟩ := List.mem_map.mp e
      exact lineText_code (hx.c c hc)
  · rw [List.length_cons, List.length_map]
    have := hx.n
    omega
def headL (f : NF) : List Nat := VbenCore.between [32] [Vbenaj.W "holes", Vbenaj.num f.holes]
def linesTo (f : NF) (i : Nat) : List (List Nat) := headL f :: (f.fields.take i).flatMap Vbenaj.fieldLines
theorem flat_len {l : List NX} (h : ∀ x ∈ l, OkX x) : (∀ w ∈ l.flatMap Vbenaj.fieldLines, w.length ≤ 60) ∧ (l.flatMap Vbenaj.fieldLines).length ≤ l.length * 9 := by
  induction l with
  | nil => exact ⟨(fun w hw => by simp at hw), by simp⟩
  | cons a r ih =>
    obtain ⟨h1, h2⟩ := ih fun x hx => h x (List.mem_cons_of_mem _ hx)
    obtain ⟨h3, h4⟩ := fieldLines_len (h a List.mem_cons_self)
    rw [List.flatMap_cons]
    refine ⟨fun w hw => ?_, ?_⟩
    · rcases List.mem_append.mp hw with e | e
      · exact h3 w e
      · exact h1 w e
    · rw [List.length_append, List.length_cons, Nat.succ_mul]
      omega
theorem linesTo_len {f : NF} (hf : OkF f) (i : Nat) : ((linesTo f i).map (·.length)).sum ≤ 91 * 60 ∧ (linesTo f i).length ≤ 91 := by
  obtain ⟨h1, h2⟩ := flat_len (l := f.fields.take i) fun x hx => hf.x x (List.mem_of_mem_take hx)
  have hn := hf.n
  rw [List.length_take] at h2
  have l1 : (linesTo f i).length ≤ 91 := by
    unfold linesTo
    rw [List.length_cons]
    omega
  refine ⟨Nat.le_trans (sum_le (B := 60) fun w hw => ?_) (Nat.mul_le_mul_right _ l1), l1⟩
  unfold linesTo at hw
  rcases List.mem_cons.mp hw with e | e
  · rw [e]
    unfold headL
    have h3 := natText_len (n := f.holes) (k := 4) (by decide) (by have := hf.h; omega)
    have e2 : (Vbenaj.W "holes").length = 5 := by decide +kernel
    refine Nat.le_trans (between_len _ _) ?_
    unfold Vbenaj.num
    simp only [List.map_cons, List.map_nil, List.sum_cons, List.sum_nil, e2, List.length_cons, List.length_nil]
    omega
  · exact h1 w e
namespace text_of
def sp (K : PySem.W.Frag) : Sp := spF K (fun a : NF => OkF a) (fun a => [fileD a]) fun a => natsD (Vbenaj.fileText a)
theorem len : ∀ vs H Q E, sp K vs H Q E → vs.length = 1 := spF_len fun _ => rfl
abbrev sS : Stmt := s_text_of
abbrev nN : List PySem.Str := ["file", "lines", "field", "code", "sign"]
theorem sc : FnScope nN ["file"] (defScope sS) := ⟨rfl, rfl, rfl, by decide +kernel, rfl, by decide +kernel, by decide +kernel⟩
theorem ok (T : Txt K mg) : Cal P w K mg base 2 "text_of" (sp K) [] := by
  have d_code_line := code_line.ok (P := P) (w := w) (base := base) T
  have d_field_line := field_line.ok (P := P) (w := w) (base := base) T
  refine cal_of T.d_text_of.1 T.d_text_of.2 sc len (fun _ _ _ _ _ _ us hl => match us, hl with | [_], _ => rfl) fun cdv A outer s H vs Q E hr hs => ⟨_, PSs.nox (pss_cons (ps_set (i := 1) sc.nd rfl (Or.inl rfl) (pe_lst (pa_cons (pe_join pe_str (pe_lst (pa_cons pe_str (pa_cons (pe_callTy call_str_int (by rfl) T.f_str (by decide +kernel) (pa_cons (pe_fld (pv 0) rfl) pa_nil)) pa_nil)))) pa_nil))) (pss_cons (ps_for PassesOwn.never rfl (pi_list (pe_fld (pv 0) rfl)) (pg_name (i := 2) sc.nd rfl (Or.inl rfl)) (pss_cons (ps_expr (pe_bm PySem.F.plainAttrs_list PySem.F.slot_list_append PySem.F.type_list_append mt_append (pv 1) (pa_cons (pe_c d_field_line hr (by decide) rfl (pa_cons (pv 2) pa_nil)) pa_nil))) (pss_one (ps_expr (pe_bm PySem.F.plainAttrs_list PySem.F.slot_list_extend PySem.F.type_list_extend mt_extend (pv 1) (pa_cons (pe_lc (own := [("code", 3)]) (g := (gName 3)) (tt := tYes) rfl sc.nd (pi_list (pe_fld (pv 2) rfl)) (blkOk_by (own := [("code", 3)]) (N := nN) (sc := defScope sS) (by decide +kernel)) (fun _ _ _ _ _ => pg_name (i := 3) sc.nd rfl (Or.inl rfl)) (fun _ _ _ _ _ => pts_nil) (fun _ _ _ _ _ => (pe_c d_code_line hr (by decide) rfl (pa_cons (pv 3) pa_nil)))) pa_nil)))))) (pss_one (ps_ret (pe_lc (own := [("sign", 4)]) (g := (gName 4)) (tt := tYes) rfl sc.nd (pi_str (pe_join pe_str (pv 1))) (blkOk_by (own := [("sign", 4)]) (N := nN) (sc := defScope sS) (by decide +kernel)) (fun _ _ _ _ _ => pg_name (i := 4) sc.nd rfl (Or.inl rfl)) (fun _ _ _ _ _ => pts_nil) (fun _ _ _ _ _ => (pe_callB call_ord (by rfl) T.f_ord (by decide +kernel) (pa_cons (pv 4) pa_nil)))))))), ?_⟩
  obtain ⟨f, hf, i, k⟩ := hs
  obtain ⟨x0, rfl, h0⟩ := i.a1
  have hh : f.holes ≤ 1000000 := by have := hf.h; omega
  refine q_asgL (el_lst (ea_cons (ev_join (a := [32]) (ys := [Vbenaj.W "holes", VbenCore.natText f.holes]) (ev_is ev_c (by decide +kernel)) (el_lst (ea_cons (ev_is ev_c (by decide +kernel)) (ea_cons (ev_strN (ed_file_holes T (ed_var rfl h0)) hh) ea_nil)) (by simp)) ?_) ea_nil) (by simp)) fun p H1 hp e1 hp1 => ?_
  · have h3 := natText_len (n := f.holes) (k := 4) (by decide) (by have := hf.h; omega)
    have e2 : (Vbenaj.W "holes").length = 5 := by decide +kernel
    simp only [List.map_cons, List.map_nil, List.sum_cons, List.sum_nil, e2, List.length_cons, List.length_nil]
    omega
  refine s_forX e1 (xd_file_fields T (xd_var rfl h0)) (fun i σ' H' => Ex H H' ∧ H' p = some (.lst ((linesTo f i).map fun w => V.str (bS w))) ∧ ∃ u v w, σ' = [some x0, some (.ref p), u, v, w])
    (fun H2 e2 => ⟨e1.trans e2, e2 _ _ hp1, none, none, none, rfl⟩) (fun _ _ _ q => q.1) ?_ ?_
  · rintro i x y σ' H' hx iy ⟨ex, hl, u, v, w, rfl⟩
    have hi := (List.getElem?_eq_some_iff.mp hx).1
    have ve : f.fields[i] = x := (List.getElem?_eq_some_iff.mp hx).2
    have ok := hf.x x (List.mem_of_getElem? hx)
    have et : linesTo f (i + 1) = (linesTo f i ++ [Vbenaj.lineText (.field x.name x.asked)]) ++ x.codes.map fun c => Vbenaj.lineText (.code c) := by
      unfold linesTo
      rw [List.take_succ_eq_append_getElem hi, ve, List.flatMap_append]
      simp [Vbenaj.fieldLines]
    have l1 := (linesTo_len hf i).2
    have okn := ok.n
    refine s_appD (D1 := _) hl (ev_var rfl) (ed_callF x (ad1 (ed_var rfl (iy.mono ex))) ok) (by rw [List.length_map]; omega) fun z H2 e2 iz => ?_
    cases iz.val
    have ep : Ex H (upd H2 p (.lst (((linesTo f i).map fun w => V.str (bS w)) ++ [V.str (bS (Vbenaj.lineText (.field x.name x.asked)))]))) := Ex.mut (ex.trans e2) hp
    refine s_extL (D1 := _) (zs := (x.codes.map fun c => Vbenaj.lineText (.code c)).map fun w => V.str (bS w)) upd_same (ev_var rfl) ?_ ?_ fun H3 e3 => ?_
    · rw [List.map_map]
      refine el_lcM (l := x.codes) (fD := codeD) (u := fun c => V.str (bS (Vbenaj.lineText (.code c)))) (ed_field_codes T (ed_var rfl (iy.mono ep))) (by omega) (fun _ => rfl) fun i c y2 H4 e4 hc ic => ?_
      exact ev_callF c (ad1 (ed_var rfl ic)) (ok.c c (List.mem_of_getElem? hc)) rfl
    · simp only [List.length_append, List.length_map, List.length_singleton]
      omega
    · refine ⟨Ex.mut (ep.trans e3) hp, ?_, _, _, _, rfl⟩
      rw [upd_same, et, List.map_append, List.map_append]
      rfl
  · rintro σ' H' ⟨ex, hl, u, v, w, rfl⟩
    have l1 := linesTo_len hf f.fields.length
    have et : VbenCore.between [10] (linesTo f f.fields.length) = Vbenaj.fileText f := by
      unfold linesTo
      rw [List.take_of_length_le (Nat.le_refl _)]
      rfl
    have fl : (Vbenaj.fileText f).length ≤ 40000 := by
      rw [← et]
      refine Nat.le_trans (between_len _ _) ?_
      show _ + _ * 1 ≤ _
      omega
    refine s_retD' ex (EvD.eq (ed_vals (el_lcS (z := Vbenaj.fileText f) (u := fun c => V.int (c : Nat)) (ev_is (ev_joinA (a := [10]) (ys := linesTo f f.fields.length) ev_c (ev_var rfl) hl (by show _ + _ * 1 ≤ _; omega)) (by rw [et])) fl (fun _ => rfl) fun i c H2 e2 hc => ev_ord (ev_var rfl))) ?_) k
    exact (natsD_eq _).symm
end text_of
end
end Nt

set_option maxHeartbeats 4000000
namespace Nt
open PySem PySem.Spec PyProof.Rows L2 Evl
open C8 (Cal Mak Met pe_c pe_mk pe_mt pe_mt0 pe_gc)
section
variable {P : Program} {w : World} {K : PySem.W.Frag} {mg : PySem.Str → Option Value} {base : Heap}
def errF (n : Int) : List (PySem.Str × V) := [("number", .int n)]
def faultF (p : Nat) : List (PySem.Str × V) := [("place", .int (p : Nat)), ("number", .int (-1000 - (p : Nat)))]
namespace Refusal_init
def sp (K : PySem.W.Frag) : Sp := fun vs H Q _ => ∃ (a C : Addr) (n : Int), vs = [.ref a, .int n] ∧ FreeF K C "number" ∧ H a = some (exo a C none) ∧
  ∀ dx H', H dx = none → dx ≠ a → (∀ b o, b ≠ a → H b = some o → H' b = some o) → H' a = some (exo a C (some dx)) → H' dx = some (exd dx (errF n)) → Q .non H'
theorem len : ∀ vs H Q E, sp K vs H Q E → vs.length = 2 := fun vs H Q E ⟨a, C, n, e, _⟩ => by rw [e]; rfl
abbrev sS : Stmt := s_Refusal_init
abbrev nN : List PySem.Str := ["self", "number"]
theorem sc : FnScope nN ["self", "number"] (defScope sS) := ⟨rfl, rfl, rfl, by decide +kernel, rfl, by decide +kernel, by decide +kernel⟩
theorem ok (T : Txt K mg) : Clm P w K mg base 1 "Refusal" "__init__" (sp K) := by
  refine clm_of T.i_Refusal T.e_Refusal.2 T.b_Refusal sc len (fun _ _ _ _ _ _ us hl => match us, hl with | [_, _], _ => rfl) fun cdv A outer s H vs Q E hr hs => ⟨_, PSs.nox (pss_cons (ps_expr (pe_exinit (by rfl) T.f_Exception (pa_cons (pv 0) (pa_cons (pv 1) pa_nil)) (vV := T.v_exc))) (pss_one (ps_er1 (pv 0) (pv 1) rfl))), ?_⟩
  obtain ⟨a, C, n, rfl, fr, ha, k⟩ := hs
  exact ⟨.ref a, rfl, .int n, rfl, by simp, ⟨C, fr.1, ha⟩, .int n, rfl, .ref a, rfl, a, C, ⟨rfl, fr⟩, ha, fun dx H' g => k dx H' g.new g.ne g.old g.err g.own⟩
end Refusal_init
theorem s_refuse {σ : L2.St} {H : Hp} {D1 : Ends} {c : PySem.Str} {t2 : TE} {a : Addr} {n : Int} {E : XK} {m : Nat} (T : ErrF K c) (hv : σ[m]? = some (some (.ref a))) (ha : H a = some (exo a (He.ga K c) none)) (h2 : ∀ Q : VK, Q (.int n) H → t2 σ H Q)
    (k : ∀ dx H', H dx = none → dx ≠ a → (∀ b o, b ≠ a → H b = some o → H' b = some o) → H' a = some (exo a (He.ga K c) (some dx)) → H' dx = some (exd dx (errF n)) → D1.nx σ H') :
    tDrop (tCall (Refusal_init.sp K) [] E (tCons (tVar m) (tCons t2 tNil))) D1 σ H := ⟨.ref a, hv, h2 _ ⟨a, _, n, rfl, ⟨T.er, T.num⟩, ha, fun dx H' h1 ne kp e1 e2 => k dx H' h1 ne kp e1 e2⟩⟩
def no0 (fs : List (PySem.Str × V)) : List V → Option (List (PySem.Str × V))
  | [] => some fs
  | _ => none
theorem no0_inv {fs fs' : List (PySem.Str × V)} {ws : List V} (h : no0 fs ws = some fs') : ws = [] ∧ fs' = fs := by
  cases ws with
  | nil => exact ⟨rfl, (Option.some.inj h).symm⟩
  | cons _ _ => cases h
theorem no0_len {c : PySem.Str} {fs : List (PySem.Str × V)} : ∀ vs H Q E, spE K c (no0 fs) vs H Q E → vs.length = 1 := fun vs H Q E ⟨a, ws, fs', e, h, _⟩ => by rw [e, (no0_inv h).1]; rfl
namespace NotBytes_init
def sp (K : PySem.W.Frag) : Sp := spE K "NotBytes" (no0 (errF (-1)))
theorem len : ∀ vs H Q E, sp K vs H Q E → vs.length = 1 := no0_len
abbrev sS : Stmt := s_NotBytes_init
abbrev nN : List PySem.Str := ["self"]
theorem sc : FnScope nN ["self"] (defScope sS) := ⟨rfl, rfl, rfl, by decide +kernel, rfl, by decide +kernel, by decide +kernel⟩
theorem ok (T : Txt K mg) : Ini P w K mg base 3 "NotBytes" (sp K) := by
  have b_Refusal := Refusal_init.ok (P := P) (w := w) (base := base) T
  refine ini_of T.i_NotBytes T.e_NotBytes sc len (fun _ _ _ _ _ _ us hl => match us, hl with | [_], _ => rfl) fun cdv A outer s H vs Q E hr hs => ⟨_, PSs.nox (pss_one (ps_expr (pe_clm b_Refusal hr (by decide) (by rfl) (pa_cons (pv 0) (pa_cons (pe_un un_neg pe_int) pa_nil))))), ?_⟩
  obtain ⟨a, ws, fs, rfl, h, er, ha, k⟩ := hs
  obtain ⟨rfl, rfl⟩ := no0_inv h
  exact s_refuse T.e_NotBytes.1 rfl ha (fun Q q => ⟨1, rfl, q⟩) k
end NotBytes_init
namespace NotInRange_init
def sp (K : PySem.W.Frag) : Sp := spE K "NotInRange" (no0 (errF (-3)))
theorem len : ∀ vs H Q E, sp K vs H Q E → vs.length = 1 := no0_len
abbrev sS : Stmt := s_NotInRange_init
abbrev nN : List PySem.Str := ["self"]
theorem sc : FnScope nN ["self"] (defScope sS) := ⟨rfl, rfl, rfl, by decide +kernel, rfl, by decide +kernel, by decide +kernel⟩
theorem ok (T : Txt K mg) : Ini P w K mg base 3 "NotInRange" (sp K) := by
  have b_Refusal := Refusal_init.ok (P := P) (w := w) (base := base) T
  refine ini_of T.i_NotInRange T.e_NotInRange sc len (fun _ _ _ _ _ _ us hl => match us, hl with | [_], _ => rfl) fun cdv A outer s H vs Q E hr hs => ⟨_, PSs.nox (pss_one (ps_expr (pe_clm b_Refusal hr (by decide) (by rfl) (pa_cons (pv 0) (pa_cons (pe_un un_neg pe_int) pa_nil))))), ?_⟩
  obtain ⟨a, ws, fs, rfl, h, er, ha, k⟩ := hs
  obtain ⟨rfl, rfl⟩ := no0_inv h
  exact s_refuse T.e_NotInRange.1 rfl ha (fun Q q => ⟨3, rfl, q⟩) k
end NotInRange_init
namespace NotAPlan_init
def sp (K : PySem.W.Frag) : Sp := spE K "NotAPlan" (no0 (errF (-4)))
theorem len : ∀ vs H Q E, sp K vs H Q E → vs.length = 1 := no0_len
abbrev sS : Stmt := s_NotAPlan_init
abbrev nN : List PySem.Str := ["self"]
theorem sc : FnScope nN ["self"] (defScope sS) := ⟨rfl, rfl, rfl, by decide +kernel, rfl, by decide +kernel, by decide +kernel⟩
theorem ok (T : Txt K mg) : Ini P w K mg base 3 "NotAPlan" (sp K) := by
  have b_Refusal := Refusal_init.ok (P := P) (w := w) (base := base) T
  refine ini_of T.i_NotAPlan T.e_NotAPlan sc len (fun _ _ _ _ _ _ us hl => match us, hl with | [_], _ => rfl) fun cdv A outer s H vs Q E hr hs => ⟨_, PSs.nox (pss_one (ps_expr (pe_clm b_Refusal hr (by decide) (by rfl) (pa_cons (pv 0) (pa_cons (pe_un un_neg pe_int) pa_nil))))), ?_⟩
  obtain ⟨a, ws, fs, rfl, h, er, ha, k⟩ := hs
  obtain ⟨rfl, rfl⟩ := no0_inv h
  exact s_refuse T.e_NotAPlan.1 rfl ha (fun Q q => ⟨4, rfl, q⟩) k
end NotAPlan_init
namespace NotLabels_init
def sp (K : PySem.W.Frag) : Sp := spE K "NotLabels" (no0 (errF (-4)))
theorem len : ∀ vs H Q E, sp K vs H Q E → vs.length = 1 := no0_len
abbrev sS : Stmt := s_NotLabels_init
abbrev nN : List PySem.Str := ["self"]
theorem sc : FnScope nN ["self"] (defScope sS) := ⟨rfl, rfl, rfl, by decide +kernel, rfl, by decide +kernel, by decide +kernel⟩
theorem ok (T : Txt K mg) : Ini P w K mg base 3 "NotLabels" (sp K) := by
  have b_Refusal := Refusal_init.ok (P := P) (w := w) (base := base) T
  refine ini_of T.i_NotLabels T.e_NotLabels sc len (fun _ _ _ _ _ _ us hl => match us, hl with | [_], _ => rfl) fun cdv A outer s H vs Q E hr hs => ⟨_, PSs.nox (pss_one (ps_expr (pe_clm b_Refusal hr (by decide) (by rfl) (pa_cons (pv 0) (pa_cons (pe_un un_neg pe_int) pa_nil))))), ?_⟩
  obtain ⟨a, ws, fs, rfl, h, er, ha, k⟩ := hs
  obtain ⟨rfl, rfl⟩ := no0_inv h
  exact s_refuse T.e_NotLabels.1 rfl ha (fun Q q => ⟨4, rfl, q⟩) k
end NotLabels_init
namespace NotThere_init
def sp (K : PySem.W.Frag) : Sp := spE K "NotThere" (no0 (errF (-5)))
theorem len : ∀ vs H Q E, sp K vs H Q E → vs.length = 1 := no0_len
abbrev sS : Stmt := s_NotThere_init
abbrev nN : List PySem.Str := ["self"]
theorem sc : FnScope nN ["self"] (defScope sS) := ⟨rfl, rfl, rfl, by decide +kernel, rfl, by decide +kernel, by decide +kernel⟩
theorem ok (T : Txt K mg) : Ini P w K mg base 3 "NotThere" (sp K) := by
  have b_Refusal := Refusal_init.ok (P := P) (w := w) (base := base) T
  refine ini_of T.i_NotThere T.e_NotThere sc len (fun _ _ _ _ _ _ us hl => match us, hl with | [_], _ => rfl) fun cdv A outer s H vs Q E hr hs => ⟨_, PSs.nox (pss_one (ps_expr (pe_clm b_Refusal hr (by decide) (by rfl) (pa_cons (pv 0) (pa_cons (pe_un un_neg pe_int) pa_nil))))), ?_⟩
  obtain ⟨a, ws, fs, rfl, h, er, ha, k⟩ := hs
  obtain ⟨rfl, rfl⟩ := no0_inv h
  exact s_refuse T.e_NotThere.1 rfl ha (fun Q q => ⟨5, rfl, q⟩) k
end NotThere_init
namespace NeverAsked_init
def sp (K : PySem.W.Frag) : Sp := spE K "NeverAsked" (no0 (errF (-7)))
theorem len : ∀ vs H Q E, sp K vs H Q E → vs.length = 1 := no0_len
abbrev sS : Stmt := s_NeverAsked_init
abbrev nN : List PySem.Str := ["self"]
theorem sc : FnScope nN ["self"] (defScope sS) := ⟨rfl, rfl, rfl, by decide +kernel, rfl, by decide +kernel, by decide +kernel⟩
theorem ok (T : Txt K mg) : Ini P w K mg base 3 "NeverAsked" (sp K) := by
  have b_Refusal := Refusal_init.ok (P := P) (w := w) (base := base) T
  refine ini_of T.i_NeverAsked T.e_NeverAsked sc len (fun _ _ _ _ _ _ us hl => match us, hl with | [_], _ => rfl) fun cdv A outer s H vs Q E hr hs => ⟨_, PSs.nox (pss_one (ps_expr (pe_clm b_Refusal hr (by decide) (by rfl) (pa_cons (pv 0) (pa_cons (pe_un un_neg pe_int) pa_nil))))), ?_⟩
  obtain ⟨a, ws, fs, rfl, h, er, ha, k⟩ := hs
  obtain ⟨rfl, rfl⟩ := no0_inv h
  exact s_refuse T.e_NeverAsked.1 rfl ha (fun Q q => ⟨7, rfl, q⟩) k
end NeverAsked_init
namespace Fault_init
def arg : List V → Option (List (PySem.Str × V))
  | [.int p] => if 0 ≤ p then some (faultF p.toNat) else none
  | _ => none
theorem arg_inv {fs : List (PySem.Str × V)} {ws : List V} (h : arg ws = some fs) : ∃ p : Nat, ws = [.int (p : Nat)] ∧ fs = faultF p := by
  unfold arg at h
  split at h
  · rename_i p
    split at h
    · rename_i hp
      refine ⟨p.toNat, ?_, (Option.some.inj h).symm⟩
      rw [Int.toNat_of_nonneg hp]
    · cases h
  · cases h
theorem arg_nat (p : Nat) : arg [.int (p : Nat)] = some (faultF p) := by
  show (if (0 : Int) ≤ (p : Nat) then some (faultF (p : Int).toNat) else none) = _
  rw [if_pos (by omega), Int.toNat_natCast]
def sp (K : PySem.W.Frag) : Sp := spE K "Fault" arg
theorem len : ∀ vs H Q E, sp K vs H Q E → vs.length = 2 := fun vs H Q E ⟨a, ws, fs, e, h, _⟩ => by obtain ⟨p, e2, _⟩ := arg_inv h; rw [e, e2]; rfl
abbrev sS : Stmt := s_Fault_init
abbrev nN : List PySem.Str := ["self", "place"]
theorem sc : FnScope nN ["self", "place"] (defScope sS) := ⟨rfl, rfl, rfl, by decide +kernel, rfl, by decide +kernel, by decide +kernel⟩
theorem ok (T : Txt K mg) : Ini P w K mg base 3 "Fault" (sp K) := by
  have b_Refusal := Refusal_init.ok (P := P) (w := w) (base := base) T
  refine ini_of T.i_Fault T.e_Fault sc len (fun _ _ _ _ _ _ us hl => match us, hl with | [_, _], _ => rfl) fun cdv A outer s H vs Q E hr hs => ⟨_, PSs.nox (pss_cons (ps_expr (pe_clm b_Refusal hr (by decide) (by rfl) (pa_cons (pv 0) (pa_cons (pe_op op_sub (pe_un un_neg pe_int) (pv 1)) pa_nil)))) (pss_one (ps_er2 (pv 0) (pv 1) rfl))), ?_⟩
  obtain ⟨a, ws, fs, rfl, h, er, ha, k⟩ := hs
  obtain ⟨p, rfl, rfl⟩ := arg_inv h
  refine s_refuse (n := -1000 - (p : Nat)) (D1 := _) T.e_Fault.1 rfl ha (fun Q q => ⟨1000, rfl, .int (p : Nat), rfl, -1000, (p : Nat), rfl, rfl, q⟩) fun dx H' h1 ne kp e1 e2 => ?_
  refine ⟨.int (p : Nat), rfl, .ref a, rfl, a, _, dx, _, ⟨rfl, T.e_Fault.1.er, T.n_place⟩, ⟨e1, e2⟩, by simp [errF], ?_⟩
  refine k dx _ h1 ne (fun b o nb hb => ?_) ?_ upd_same
  · rw [upd_ne (ne_of_none hb h1)]
    exact kp b o nb hb
  · rw [upd_ne ne.symm]
    exact e1
end Fault_init
end
end Nt

set_option maxHeartbeats 4000000
namespace Nt
open PySem PySem.Spec PyProof.Rows L2 Evl
open C8 (Cal Mak Met pe_c pe_mk pe_mt pe_mt0 pe_gc)
/-- a def that gives nothing back and may raise -/
def spX (K : PySem.W.Frag) {α : Type} (pre : α → Prop) (args : α → List D) (res : α → Option (PySem.Str × List (PySem.Str × V))) : Sp := fun vs H Q E => ∃ a, pre a ∧ IsL K H vs (args a) ∧
  (∀ c fs, res a = some (c, fs) → RaiseK K c fs H E) ∧ (res a = none → ∀ H', Ex H H' → Q .non H')
theorem spX_len {K : PySem.W.Frag} {α : Type} {pre : α → Prop} {args : α → List D} {res : α → Option (PySem.Str × List (PySem.Str × V))} {n : Nat} (h : ∀ a, (args a).length = n) : ∀ vs H Q E, spX K pre args res vs H Q E → vs.length = n := fun vs H Q E ⟨a, _, i, _⟩ => i.length.trans (h a)
theorem s_callX {K : PySem.W.Frag} {α : Type} {pre : α → Prop} {args : α → List D} {res : α → Option (PySem.Str × List (PySem.Str × V))} {σ : L2.St} {H : Hp} {D1 : Ends} {ta : TA} {E : XK} (a : α) (h : EvAD K ta σ H (args a)) (hp : pre a)
    (hE : ∀ c fs, res a = some (c, fs) → RaiseK K c fs H E) (k : res a = none → ∀ H1, Ex H H1 → D1.nx σ H1) : tDrop (tCall (spX K pre args res) [] E ta) D1 σ H := h H (Ex.refl H) _ fun xs H1 e1 ix =>
  ⟨a, hp, by rw [List.append_nil]; exact ix, fun c fs e => (hE c fs e).mono e1, fun e H2 e2 => k e H2 (e1.trans e2)⟩
theorem q_callX {K : PySem.W.Frag} {α : Type} {pre : α → Prop} {args : α → List D} {res : α → Option (PySem.Str × List (PySem.Str × V))} {σ : L2.St} {H : Hp} {D1 : Ends} {ta : TA} {tz : TS} {E : XK} (a : α) (h : EvAD K ta σ H (args a)) (hp : pre a)
    (hE : ∀ c fs, res a = some (c, fs) → RaiseK K c fs H E) (k : res a = none → ∀ H1, Ex H H1 → tz D1 σ H1) : tSeq (tDrop (tCall (spX K pre args res) [] E ta)) tz D1 σ H := s_callX (D1 := { D1 with nx := tz D1 }) a h hp hE k
section
variable {P : Program} {w : World} {K : PySem.W.Frag} {mg : PySem.Str → Option Value} {base : Heap}
namespace refuse_wrong_bytes
def res (a : List Int) : Option (PySem.Str × List (PySem.Str × V)) := if (a.all fun c => VbenCore.isBetween c 0 255) = true then none else some ("NotBytes", errF (-1))
def sp (K : PySem.W.Frag) : Sp := spX K (fun a : List Int => a.length ≤ 40000) (fun a => [intsD a]) res
theorem len : ∀ vs H Q E, sp K vs H Q E → vs.length = 1 := spX_len fun _ => rfl
abbrev sS : Stmt := s_refuse_wrong_bytes
abbrev nN : List PySem.Str := ["text", "byte"]
theorem sc : FnScope nN ["text"] (defScope sS) := ⟨rfl, rfl, rfl, by decide +kernel, rfl, by decide +kernel, by decide +kernel⟩
theorem ok (T : Txt K mg) : CalX P w K mg base 5 "refuse_wrong_bytes" (sp K) := by
  have i_NotBytes := NotBytes_init.ok (P := P) (w := w) (base := base) T
  refine calx_of T.d_refuse_wrong_bytes.1 T.d_refuse_wrong_bytes.2 sc len (fun _ _ _ _ _ _ us hl => match us, hl with | [_], _ => rfl) fun cdv A outer s H vs Q E hr hs => ⟨_, (pss_one (ps_if (pt_val (pe_callB (cr_any rfl) (by rfl) T.f_any (by decide +kernel) (pa_cons (pe_lc (own := [("byte", 1)]) (g := (gName 1)) (tt := tYes) rfl sc.nd (pi_list (pv 0)) (blkOk_by (own := [("byte", 1)]) (N := nN) (sc := defScope sS) (by decide +kernel)) (fun _ _ _ _ _ => pg_name (i := 1) sc.nd rfl (Or.inl rfl)) (fun _ _ _ _ _ => pts_nil) (fun _ _ _ _ _ => (pe_or (pe_cmpR op_lt (pv 1) pe_int (nomark _)) (pe_one (pe_cmpR op_gt (pv 1) pe_int (nomark _)))))) pa_nil))) (pss_one (ps_rai0 i_NotBytes rfl hr (by decide) (by rfl) (takes_of rfl rfl rfl rfl))) pss_nil)), ?_⟩
  obtain ⟨a, hp, i, hE, k⟩ := hs
  obtain ⟨x0, rfl, h0⟩ := i.a1
  unfold res at hE k
  refine s_when (b := !(a.all fun c => VbenCore.isBetween c 0 255)) (et_is (et_test (ev_any (bs := a.map fun c => decide (c < 0) || decide (255 < c)) ?_)) ?_) (fun z H1 e1 => ?_) fun z H1 e1 => ?_
  · rw [List.map_map]
    refine el_lcM (l := a) (fD := fun n => D.v (.int n)) (u := fun c => V.bl (decide (c < 0) || decide (255 < c))) (ed_var rfl h0) hp (fun _ => rfl) fun i c x H1 e1 hc ic => ?_
    cases ic.val
    exact ev_orV (ev_op (ev_var rfl) ev_c rv_I0) fun _ => ev_op (ev_var rfl) ev_c rv_I0
  · rw [List.any_map]
    clear hE k h0 hp i
    induction a with
    | nil => rfl
    | cons c r ih =>
      rw [List.any_cons, List.all_cons, ih]
      unfold VbenCore.isBetween
      show ((decide (c < 0) || decide (255 < c)) || _) = _
      by_cases q1 : c < 0 <;> by_cases q2 : 255 < c <;> simp [q1, q2] <;> omega
  · rw [if_neg (by intro q; rw [q] at z; cases z)] at hE
    exact s_raise (args := no0 (errF (-1))) T.e_NotBytes.1.er ea_nil (by simp) rfl ((hE _ _ rfl).mono e1)
  · rw [if_pos (by cases q : a.all fun c => VbenCore.isBetween c 0 255 with | true => rfl | false => rw [q] at z; cases z)] at k
    exact k rfl H1 e1
end refuse_wrong_bytes
namespace refuse_out_of_range
def res (a : Int × Int) : Option (PySem.Str × List (PySem.Str × V)) := if 0 ≤ a.1 ∧ a.1 ≤ a.2 then none else some ("NotInRange", errF (-3))
def sp (K : PySem.W.Frag) : Sp := spX K (fun a : Int × Int => True) (fun a => [.i a.1, .i a.2]) res
theorem len : ∀ vs H Q E, sp K vs H Q E → vs.length = 2 := spX_len fun _ => rfl
abbrev sS : Stmt := s_refuse_out_of_range
abbrev nN : List PySem.Str := ["number", "greatest"]
theorem sc : FnScope nN ["number", "greatest"] (defScope sS) := ⟨rfl, rfl, rfl, by decide +kernel, rfl, by decide +kernel, by decide +kernel⟩
theorem ok (T : Txt K mg) : CalX P w K mg base 5 "refuse_out_of_range" (sp K) := by
  have i_NotInRange := NotInRange_init.ok (P := P) (w := w) (base := base) T
  refine calx_of T.d_refuse_out_of_range.1 T.d_refuse_out_of_range.2 sc len (fun _ _ _ _ _ _ us hl => match us, hl with | [_, _], _ => rfl) fun cdv A outer s H vs Q E hr hs => ⟨_, (pss_one (ps_if (PW.pt (pw_or (pt_cmpR op_lt (pv 0) pe_int (nomark _)) (pw_or1 (pt_cmpR op_gt (pv 0) (pv 1) (nomark _))))) (pss_one (ps_rai0 i_NotInRange rfl hr (by decide) (by rfl) (takes_of rfl rfl rfl rfl))) pss_nil)), ?_⟩
  obtain ⟨⟨n, m⟩, hp, i, hE, k⟩ := hs
  obtain ⟨x0, x1, rfl, h0, h1⟩ := i.a2
  cases h0.val
  cases h1.val
  unfold res at hE k
  dsimp only at hE k
  refine s_when (b := decide (¬ (0 ≤ n ∧ n ≤ m))) (et_is (et_or (et_lt (ev_var rfl) ev_c) fun _ => et_gt (ev_var rfl) (ev_var rfl)) ?_) (fun z H1 e1 => ?_) fun z H1 e1 => ?_
  · by_cases q1 : n < 0 <;> by_cases q2 : m < n <;> simp [q1, q2] <;> omega
  · rw [if_neg (of_decide_eq_true z)] at hE
    exact s_raise (args := no0 (errF (-3))) T.e_NotInRange.1.er ea_nil (by simp) rfl ((hE _ _ rfl).mono e1)
  · rw [if_pos (by have := of_decide_eq_false z; exact Decidable.not_not.mp this)] at k
    exact k rfl H1 e1
end refuse_out_of_range
namespace refuse_wrong_field
def res (a : NF × Int) : Option (PySem.Str × List (PySem.Str × V)) := if 0 ≤ a.2 ∧ a.2 ≤ 9 then (if a.2 < a.1.fields.length then none else some ("NotThere", errF (-5))) else some ("NotInRange", errF (-3))
def sp (K : PySem.W.Frag) : Sp := spX K (fun a : NF × Int => True) (fun a => [fileD a.1, .i a.2]) res
theorem len : ∀ vs H Q E, sp K vs H Q E → vs.length = 2 := spX_len fun _ => rfl
abbrev sS : Stmt := s_refuse_wrong_field
abbrev nN : List PySem.Str := ["file", "i"]
theorem sc : FnScope nN ["file", "i"] (defScope sS) := ⟨rfl, rfl, rfl, by decide +kernel, rfl, by decide +kernel, by decide +kernel⟩
theorem ok (T : Txt K mg) : CalX P w K mg base 6 "refuse_wrong_field" (sp K) := by
  have i_NotThere := NotThere_init.ok (P := P) (w := w) (base := base) T
  have d_refuse_out_of_range := refuse_out_of_range.ok (P := P) (w := w) (base := base) T
  refine calx_of T.d_refuse_wrong_field.1 T.d_refuse_wrong_field.2 sc len (fun _ _ _ _ _ _ us hl => match us, hl with | [_, _], _ => rfl) fun cdv A outer s H vs Q E hr hs => ⟨_, (pss_cons (ps_expr (pe_cX d_refuse_out_of_range hr (by decide) rfl (takes_of rfl rfl rfl rfl) (pa_cons (pv 1) (pa_cons (pe_op op_sub (pe_gc rfl T.c_MOST_FIELDS) pe_int) pa_nil)))) (pss_one (ps_if (pt_cmpR op_ge (pv 1) (pe_callB call_len_seq (by rfl) T.f_len PySem.boot_len (pa_cons (pe_fld (pv 0) rfl) pa_nil)) (nomark _)) (pss_one (ps_rai0 i_NotThere rfl hr (by decide) (by rfl) (takes_of rfl rfl rfl rfl))) pss_nil))), ?_⟩
  obtain ⟨⟨f, n⟩, hp, i, hE, k⟩ := hs
  obtain ⟨x0, x1, rfl, h0, h1⟩ := i.a2
  cases h1.val
  unfold res at hE k
  dsimp only at hE k h0
  refine q_callX (n, 9) (ad2 (ed_v (ev_var rfl)) (ed_v (ev_is (ev_sub ev_c ev_c) rfl))) trivial (fun c fs e => ?_) fun e H1 e1 => ?_
  · unfold refuse_out_of_range.res at e
    dsimp only at e
    by_cases q : 0 ≤ n ∧ n ≤ 9
    · rw [if_pos q] at e; cases e
    · rw [if_neg q] at e hE
      exact hE c fs e
  · unfold refuse_out_of_range.res at e
    dsimp only at e
    by_cases q : 0 ≤ n ∧ n ≤ 9
    · rw [if_pos q] at hE k
      refine s_when (b := decide (¬ n < f.fields.length)) (et_is (et_ge (ev_var rfl) (ev_lenD (ed_file_fields T (ed_var rfl (h0.mono e1))))) ?_) (fun z H2 e2 => ?_) fun z H2 e2 => ?_
      · rw [List.length_map]
        by_cases q1 : n < f.fields.length <;> simp [q1] <;> omega
      · rw [if_neg (of_decide_eq_true z)] at hE
        exact s_raise (args := no0 (errF (-5))) T.e_NotThere.1.er ea_nil (by simp) rfl ((hE _ _ rfl).mono (e1.trans e2))
      · rw [if_pos (Decidable.not_not.mp (of_decide_eq_false z))] at k
        exact k rfl H2 (e1.trans e2)
    · rw [if_neg q] at e; cases e
end refuse_wrong_field
namespace refuse_wrong_code
def res (a : NF × Int × Int) : Option (PySem.Str × List (PySem.Str × V)) := match refuse_wrong_field.res (a.1, a.2.1) with
  | some z => some z
  | none => if 0 ≤ a.2.2 ∧ a.2.2 ≤ 7 then (if a.2.2 < (Vbenaj.fieldAt a.1 a.2.1.toNat).codes.length then none else some ("NotThere", errF (-5))) else some ("NotInRange", errF (-3))
def sp (K : PySem.W.Frag) : Sp := spX K (fun a : NF × Int × Int => True) (fun a => [fileD a.1, .i a.2.1, .i a.2.2]) res
theorem len : ∀ vs H Q E, sp K vs H Q E → vs.length = 3 := spX_len fun _ => rfl
theorem field_in {f : NF} {n : Int} (h : refuse_wrong_field.res (f, n) = none) : ∃ m : Nat, n = (m : Nat) ∧ m ≤ 9 ∧ m < f.fields.length := by
  unfold refuse_wrong_field.res at h
  dsimp only at h
  by_cases q : 0 ≤ n ∧ n ≤ 9
  · rw [if_pos q] at h
    by_cases q2 : n < f.fields.length
    · exact ⟨n.toNat, by omega, by omega, by omega⟩
    · rw [if_neg q2] at h; cases h
  · rw [if_neg q] at h; cases h
theorem fieldAt_get {f : NF} {m : Nat} (h : m < f.fields.length) : f.fields[m]? = some (Vbenaj.fieldAt f m) := by
  unfold Vbenaj.fieldAt
  rw [List.getD_eq_getElem?_getD, List.getElem?_eq_getElem h]
  rfl
abbrev sS : Stmt := s_refuse_wrong_code
abbrev nN : List PySem.Str := ["file", "i", "c"]
theorem sc : FnScope nN ["file", "i", "c"] (defScope sS) := ⟨rfl, rfl, rfl, by decide +kernel, rfl, by decide +kernel, by decide +kernel⟩
theorem ok (T : Txt K mg) : CalX P w K mg base 7 "refuse_wrong_code" (sp K) := by
  have i_NotThere := NotThere_init.ok (P := P) (w := w) (base := base) T
  have d_refuse_out_of_range := refuse_out_of_range.ok (P := P) (w := w) (base := base) T
  have d_refuse_wrong_field := refuse_wrong_field.ok (P := P) (w := w) (base := base) T
  refine calx_of T.d_refuse_wrong_code.1 T.d_refuse_wrong_code.2 sc len (fun _ _ _ _ _ _ us hl => match us, hl with | [_, _, _], _ => rfl) fun cdv A outer s H vs Q E hr hs => ⟨_, (pss_cons (ps_expr (pe_cX d_refuse_wrong_field hr (by decide) rfl (takes_of rfl rfl rfl rfl) (pa_cons (pv 0) (pa_cons (pv 1) pa_nil)))) (pss_cons (ps_expr (pe_cX d_refuse_out_of_range hr (by decide) rfl (takes_of rfl rfl rfl rfl) (pa_cons (pv 2) (pa_cons (pe_op op_sub (pe_gc rfl T.c_MOST_CODES) pe_int) pa_nil)))) (pss_one (ps_if (pt_cmpR op_ge (pv 2) (pe_callB call_len_seq (by rfl) T.f_len PySem.boot_len (pa_cons (pe_fld (pe_ix ix_list (pe_fld (pv 0) rfl) (pv 1) (fun _ _ => rfl)) rfl) pa_nil)) (nomark _)) (pss_one (ps_rai0 i_NotThere rfl hr (by decide) (by rfl) (takes_of rfl rfl rfl rfl))) pss_nil)))), ?_⟩
  obtain ⟨⟨f, n, c⟩, hp, i, hE, k⟩ := hs
  obtain ⟨x0, x1, x2, rfl, h0, h1, h2⟩ := i.a3
  cases h1.val
  cases h2.val
  unfold res at hE k
  dsimp only at hE k h0
  refine q_callX (f, n) (ad2 (ed_var rfl h0) (ed_v (ev_var rfl))) trivial (fun c fs e => ?_) fun e H1 e1 => ?_
  · rw [e] at hE
    exact hE c fs rfl
  · rw [e] at hE k
    dsimp only at hE k
    obtain ⟨m, rfl, hm9, hm⟩ := field_in e
    rw [Int.toNat_natCast] at hE k
    refine q_callX (c, 7) (ad2 (ed_v (ev_var rfl)) (ed_v (ev_is (ev_sub ev_c ev_c) rfl))) trivial (fun c' fs e => ?_) fun e H2 e2 => ?_
    · unfold refuse_out_of_range.res at e
      dsimp only at e
      by_cases q : 0 ≤ c ∧ c ≤ 7
      · rw [if_pos q] at e; cases e
      · rw [if_neg q] at e hE
        exact (hE c' fs e).mono e1
    · unfold refuse_out_of_range.res at e
      dsimp only at e
      by_cases q : 0 ≤ c ∧ c ≤ 7
      · rw [if_pos q] at hE k
        refine s_when (b := decide (¬ c < (Vbenaj.fieldAt f m).codes.length)) (et_is (et_ge (ev_var rfl) (ev_lenD (ed_field_codes T (ed_ix (d := fieldD (Vbenaj.fieldAt f m)) (i := (m : Nat)) (ed_file_fields T (ed_var rfl (h0.mono (e1.trans e2)))) (ev_var rfl) (atI_nat' (by rw [List.getElem?_map, fieldAt_get hm]; rfl)))))) ?_) (fun z H3 e3 => ?_) fun z H3 e3 => ?_
        · rw [List.length_map]
          by_cases q1 : c < (Vbenaj.fieldAt f m).codes.length <;> simp [q1] <;> omega
        · rw [if_neg (of_decide_eq_true z)] at hE
          exact s_raise (args := no0 (errF (-5))) T.e_NotThere.1.er ea_nil (by simp) rfl ((hE _ _ rfl).mono ((e1.trans e2).trans e3))
        · rw [if_pos (Decidable.not_not.mp (of_decide_eq_false z))] at k
          exact k rfl H3 ((e1.trans e2).trans e3)
      · rw [if_neg q] at e; cases e
end refuse_wrong_code
end
end Nt

set_option maxHeartbeats 4000000
namespace Nt
open Vbenaj
abbrev Wd := Nat × List Nat
/-! ### a file read: words and what the program has of them -/
theorem zip_last {α : Type} (g : α → α) (a : List α) (x : α) : ((a ++ [x]).zipIdx.map fun z => if z.2 + 1 = (a ++ [x]).length then g z.1 else z.1) = a ++ [g x] := by
  refine List.ext_getElem? fun i => ?_
  rw [List.getElem?_map, List.getElem?_zipIdx]
  by_cases h : i < a.length
  · rw [List.getElem?_append_left h, List.getElem?_append_left h, List.getElem?_eq_getElem h]
    show some (if 0 + i + 1 = (a ++ [x]).length then g a[i] else a[i]) = _
    rw [if_neg (by rw [List.length_append, List.length_singleton]; omega)]
  · by_cases h2 : i = a.length
    · subst h2
      rw [List.getElem?_append_right (Nat.le_refl _), List.getElem?_append_right (Nat.le_refl _), Nat.sub_self]
      show some (if 0 + a.length + 1 = (a ++ [x]).length then g x else x) = some (g x)
      rw [if_pos (by rw [List.length_append, List.length_singleton]; omega)]
    · rw [List.getElem?_eq_none (by rw [List.length_append, List.length_singleton]; omega), List.getElem?_eq_none (by rw [List.length_append, List.length_singleton]; omega)]
      rfl
theorem putLine_code {f : File} {a : List Field} {x : Field} {c : Code} (h : f.fields = a ++ [x]) : (putLine f (.code c)).fields = a ++ [{ x with codes := x.codes ++ [c] }] := by
  show (f.fields.zipIdx.map fun z => if z.2 + 1 = f.fields.length then { z.1 with codes := z.1.codes ++ [c] } else z.1) = _
  rw [h]
  exact zip_last (fun y : Field => { y with codes := y.codes ++ [c] }) a x
theorem lastCodes_snoc {f : File} {a : List Field} {x : Field} (h : f.fields = a ++ [x]) : lastCodes f = x.codes := by
  unfold lastCodes
  rw [h, List.getLast?_concat]
  rfl
theorem putLine_holes (f : File) (l : Line) : (putLine f l).holes = f.holes := by cases l <;> rfl
/-! the steps -/
def fieldIn (e : Nat) (had : List (List Nat)) (l : List Wd) : Except Nat (Field × List Wd) := match nameIn e had l with
  | .error p => .error p
  | .ok (n, l) => match VbenCore.must e (W "asked") l with
    | .error p => .error p
    | .ok l => match numIn e 0 ASKED l with
      | .error p => .error p
      | .ok (k, l) => .ok ({ name := n, asked := k, codes := [] }, l)
def codeIn (e : Nat) (had : List (List Nat)) (l : List Wd) : Except Nat (Code × List Wd) := match nameIn e had l with
  | .error p => .error p
  | .ok (n, l) => match VbenCore.must e (W "holes") l with
    | .error p => .error p
    | .ok l => match numIn e 0 HOLES l with
      | .error p => .error p
      | .ok (h, l) => match VbenCore.must e (W "cost") l with
        | .error p => .error p
        | .ok l => match numIn e 0 COST l with
          | .error p => .error p
          | .ok (c, l) => .ok ({ name := n, holes := h, cost := c }, l)
/-- one line behind some fields -/
def lineP (fs : List Field) (e : Nat) (l : List Wd) : Except Nat (List Field × List Wd) := match l with
  | [] => .error e
  | w :: r =>
    if w.2 = W "field" ∧ fs.length < 10 then (match fieldIn e (fs.map fun x => x.name) r with
      | .error p => .error p
      | .ok (x, l) => .ok (fs ++ [x], l))
    else if w.2 = W "code" ∧ 0 < fs.length ∧ (lastCodes { holes := 0, fields := fs }).length < 8 then (match codeIn e ((lastCodes { holes := 0, fields := fs }).map fun c => c.name) r with
      | .error p => .error p
      | .ok (c, l) => .ok ((putLine { holes := 0, fields := fs } (.code c)).fields, l))
    else .error w.1
theorem lastCodes_h (f : File) (h : Nat) : lastCodes { f with holes := h } = lastCodes f := rfl
theorem lineIn_P (f : File) (e : Nat) (l : List Wd) : (match lineIn f e l with
    | .error p => .error p
    | .ok (x, r) => .ok ((putLine f x).fields, r)) = lineP f.fields e l := by
  cases l with
  | nil => rfl
  | cons w r =>
    unfold lineIn lineP
    dsimp only
    by_cases h1 : w.2 = W "field" ∧ f.fields.length < FIELDS
    · rw [if_pos h1, if_pos (show w.2 = W "field" ∧ f.fields.length < 10 from h1)]
      unfold fieldIn
      cases e1 : nameIn e (f.fields.map fun x => x.name) r with
      | error p => rfl
      | ok z =>
        obtain ⟨n, l⟩ := z
        dsimp only
        cases e2 : VbenCore.must e (W "asked") l with
        | error p => simp only [bind, Except.bind, e2]
        | ok l2 =>
          simp only [bind, Except.bind, e2]
          cases e3 : numIn e 0 ASKED l2 with
          | error p => rfl
          | ok z => rfl
    · rw [if_neg h1, if_neg (show ¬ (w.2 = W "field" ∧ f.fields.length < 10) from h1)]
      have hb : (f.fields.isEmpty = false) ↔ 0 < f.fields.length := by cases f.fields <;> simp
      by_cases h2 : w.2 = W "code" ∧ f.fields.isEmpty = false ∧ (lastCodes f).length < CODES
      · have h3 : w.2 = W "code" ∧ 0 < f.fields.length ∧ (lastCodes { holes := 0, fields := f.fields }).length < 8 := ⟨h2.1, hb.mp h2.2.1, h2.2.2⟩
        rw [if_pos h2, if_pos h3]
        unfold codeIn
        have el : lastCodes { holes := 0, fields := f.fields } = lastCodes f := rfl
        rw [el]
        cases e1 : nameIn e ((lastCodes f).map fun c => c.name) r with
        | error p => rfl
        | ok z =>
          obtain ⟨n, l⟩ := z
          simp only [bind, Except.bind]
          cases e2 : VbenCore.must e (W "holes") l with
          | error p => rfl
          | ok l2 =>
            dsimp only
            cases e3 : numIn e 0 HOLES l2 with
            | error p => rfl
            | ok z =>
              obtain ⟨h, l3⟩ := z
              dsimp only
              cases e4 : VbenCore.must e (W "cost") l3 with
              | error p => rfl
              | ok l4 =>
                dsimp only
                cases e5 : numIn e 0 COST l4 with
                | error p => rfl
                | ok z => rfl
      · have h3 : ¬ (w.2 = W "code" ∧ 0 < f.fields.length ∧ (lastCodes { holes := 0, fields := f.fields }).length < 8) := fun z => h2 ⟨z.1, hb.mpr z.2.1, z.2.2⟩
        rw [if_neg h2, if_neg h3]
/-! all lines -/
def linesP (e : Nat) : Nat → List Field → List Wd → Except Nat (List Field)
  | 0, _, l => .error (VbenCore.placeOf e l)
  | g + 1, fs, l => if l.isEmpty = true then .ok fs else match VbenCore.must e [10] l with
    | .error p => .error p
    | .ok l => match lineP fs e l with
      | .error p => .error p
      | .ok (fs', l) => linesP e g fs' l
theorem linesIn_P (e : Nat) : ∀ (g : Nat) (f : File) (l : List Wd), linesIn e g f l = (match linesP e g f.fields l with
    | .error p => .error p
    | .ok fs => .ok { holes := f.holes, fields := fs })
  | 0, f, l => rfl
  | g + 1, f, l => by
    unfold linesIn linesP
    by_cases h : l.isEmpty = true
    · rw [if_pos h, if_pos h]
    · rw [if_neg h, if_neg h]
      cases e1 : VbenCore.must e [10] l with
      | error p => simp only [bind, Except.bind, e1]
      | ok l2 =>
        simp only [bind, Except.bind, e1]
        have q := lineIn_P f e l2
        cases e2 : lineIn f e l2 with
        | error p =>
          rw [e2] at q
          dsimp only at q ⊢
          rw [← q]
        | ok z =>
          obtain ⟨x, l3⟩ := z
          rw [e2] at q
          dsimp only at q ⊢
          rw [← q]
          dsimp only
          have ih := linesIn_P e g (putLine f x) l3
          rw [putLine_holes] at ih
          exact ih
def readFileP (t : List Nat) : Except Nat File := match VbenCore.must t.length (W "holes") (wordsI t) with
  | .error p => .error p
  | .ok l => match numIn t.length 0 HOLES l with
    | .error p => .error p
    | .ok (h, l) => match linesP t.length (l.length + 1) [] l with
      | .error p => .error p
      | .ok fs => .ok { holes := h, fields := fs }
def readLineP (fs : List Field) (t : List Nat) : Except Nat (List Field) := match lineP fs t.length (wordsI t) with
  | .error p => .error p
  | .ok (fs', l) => match l with
    | [] => .ok fs'
    | w :: _ => .error w.1
/-! the signs that the program keeps -/
theorem sgn_known {c d : Nat} (hd : known d = true) (h63 : d ≠ 63) : sgn c = d ↔ c = d := by
  unfold sgn
  by_cases h : known c = true
  · rw [if_pos h]
  · rw [if_neg h]
    exact ⟨fun z => absurd z.symm h63, fun z => absurd (z ▸ hd) h⟩
theorem map_sgn_eq : ∀ {w b : List Nat}, (∀ c ∈ b, known c = true ∧ c ≠ 63) → (w.map sgn = b ↔ w = b)
  | [], [], _ => by simp
  | [], _ :: _, _ => by simp
  | _ :: _, [], _ => by simp
  | c :: w, d :: b, h => by
    have h1 := h d List.mem_cons_self
    rw [List.map_cons, List.cons.injEq, List.cons.injEq, sgn_known h1.1 h1.2, map_sgn_eq fun x hx => h x (List.mem_cons_of_mem _ hx)]
theorem must_msg {e : Nat} {b : List Nat} (h : ∀ c ∈ b, known c = true ∧ c ≠ 63) (l : List Wd) : VbenCore.must e b (l.map msg) = (match VbenCore.must e b l with
    | .error p => .error p
    | .ok r => .ok (r.map msg)) := by
  cases l with
  | nil => rfl
  | cons w r =>
    show (if w.2.map sgn = b then Except.ok (r.map msg) else .error w.1) = _
    unfold VbenCore.must
    dsimp only
    by_cases q : w.2 = b
    · rw [if_pos q, if_pos ((map_sgn_eq h).mpr q)]
    · rw [if_neg q, if_neg fun z => q ((map_sgn_eq h).mp z)]
theorem letter_sgn (c : Nat) : VbenCore.isLetter (sgn c) = VbenCore.isLetter c := by
  unfold sgn
  by_cases h : known c = true
  · rw [if_pos h]
  · rw [if_neg h]
    have : VbenCore.isLetter c = false := by
      cases q : VbenCore.isLetter c with
      | false => rfl
      | true =>
        unfold VbenCore.isLetter at q
        simp only [Bool.and_eq_true, decide_eq_true_eq] at q
        refine absurd ?_ h
        unfold known
        simp only [Bool.or_eq_true, Bool.and_eq_true, decide_eq_true_eq]
        omega
    rw [this]
    rfl
theorem digit_sgn (c : Nat) : VbenCore.isDigit (sgn c) = VbenCore.isDigit c := by
  unfold sgn
  by_cases h : known c = true
  · rw [if_pos h]
  · rw [if_neg h]
    have : VbenCore.isDigit c = false := by
      cases q : VbenCore.isDigit c with
      | false => rfl
      | true =>
        unfold VbenCore.isDigit at q
        simp only [Bool.and_eq_true, decide_eq_true_eq] at q
        refine absurd ?_ h
        unfold known
        simp only [Bool.or_eq_true, Bool.and_eq_true, decide_eq_true_eq]
        omega
    rw [this]
    rfl
theorem all_map' {p q : Nat → Bool} {g : Nat → Nat} (h : ∀ c, p (g c) = q c) : ∀ w : List Nat, (w.map g).all p = w.all q
  | [] => rfl
  | c :: w => by rw [List.map_cons, List.all_cons, List.all_cons, h, all_map' h w]
theorem letters_fix {w : List Nat} (h : w.all VbenCore.isLetter = true) : w.map sgn = w := by
  refine (List.map_congr_left fun c hc => ?_).trans (List.map_id w)
  have := List.all_eq_true.mp h c hc
  unfold VbenCore.isLetter at this
  simp only [Bool.and_eq_true, decide_eq_true_eq] at this
  unfold sgn
  rw [if_pos]
  · rfl
  · unfold known
    simp only [Bool.or_eq_true, Bool.and_eq_true, decide_eq_true_eq]
    omega
theorem digits_fix {w : List Nat} (h : w.all VbenCore.isDigit = true) : w.map sgn = w := by
  refine (List.map_congr_left fun c hc => ?_).trans (List.map_id w)
  have := List.all_eq_true.mp h c hc
  unfold VbenCore.isDigit at this
  simp only [Bool.and_eq_true, decide_eq_true_eq] at this
  unfold sgn
  rw [if_pos]
  · rfl
  · unfold known
    simp only [Bool.or_eq_true, Bool.and_eq_true, decide_eq_true_eq]
    omega
theorem isName_sgn (w : List Nat) : VbenCore.isName (w.map sgn) = VbenCore.isName w := by
  unfold VbenCore.isName
  rw [List.length_map, all_map' letter_sgn]
theorem isName_fix {w : List Nat} (h : VbenCore.isName w = true) : w.map sgn = w := by
  unfold VbenCore.isName at h
  simp only [Bool.and_eq_true] at h
  exact letters_fix h.2.2
theorem natOf_sgn (w : List Nat) : VbenCore.natOf (w.map sgn) = VbenCore.natOf w := by
  by_cases h : w.all VbenCore.isDigit = true
  · rw [digits_fix h]
  · have h2 : w.all VbenCore.isDigit = false := by cases q : w.all VbenCore.isDigit with | false => rfl | true => exact absurd q h
    unfold VbenCore.natOf
    rw [if_pos (.inr (.inr (.inl (by rw [all_map' digit_sgn]; exact h2)))), if_pos (.inr (.inr (.inl h2)))]
theorem nameIn_msg (e : Nat) (had : List (List Nat)) (l : List Wd) : nameIn e had (l.map msg) = (match nameIn e had l with
    | .error p => .error p
    | .ok (n, r) => .ok (n, r.map msg)) := by
  cases l with
  | nil => rfl
  | cons w r =>
    show (if VbenCore.isName (w.2.map sgn) = true ∧ had.contains (w.2.map sgn) = false then Except.ok (w.2.map sgn, r.map msg) else .error w.1) = _
    unfold nameIn
    rw [isName_sgn]
    dsimp only
    by_cases q : VbenCore.isName w.2 = true
    · rw [isName_fix q]
      by_cases q2 : had.contains w.2 = false
      · rw [if_pos ⟨q, q2⟩, if_pos ⟨q, q2⟩]
      · rw [if_neg (fun z => q2 z.2), if_neg (fun z => q2 z.2)]
    · rw [if_neg (fun z => q z.1), if_neg (fun z => q z.1)]
theorem numIn_msg (e lo hi : Nat) (l : List Wd) : numIn e lo hi (l.map msg) = (match numIn e lo hi l with
    | .error p => .error p
    | .ok (n, r) => .ok (n, r.map msg)) := by
  cases l with
  | nil => rfl
  | cons w r =>
    show (match VbenCore.natOf (w.2.map sgn) with
      | some n => if lo ≤ n ∧ n ≤ hi then Except.ok (n, r.map msg) else .error w.1
      | none => .error w.1) = _
    unfold numIn
    rw [natOf_sgn]
    dsimp only
    cases VbenCore.natOf w.2 with
    | none => rfl
    | some n =>
      dsimp only
      by_cases q : lo ≤ n ∧ n ≤ hi
      · rw [if_pos q, if_pos q]
      · rw [if_neg q, if_neg q]
theorem W_known : (∀ c ∈ W "field", known c = true ∧ c ≠ 63) ∧ (∀ c ∈ W "asked", known c = true ∧ c ≠ 63) ∧ (∀ c ∈ W "code", known c = true ∧ c ≠ 63) ∧ (∀ c ∈ W "holes", known c = true ∧ c ≠ 63) ∧ (∀ c ∈ W "cost", known c = true ∧ c ≠ 63) ∧ (∀ c ∈ [10], known c = true ∧ c ≠ 63) := by decide +kernel
theorem fieldIn_msg (e : Nat) (had : List (List Nat)) (l : List Wd) : fieldIn e had (l.map msg) = (match fieldIn e had l with
    | .error p => .error p
    | .ok (n, r) => .ok (n, r.map msg)) := by
  unfold fieldIn
  rw [nameIn_msg]
  cases nameIn e had l with
  | error p => rfl
  | ok z =>
    obtain ⟨n, l⟩ := z
    dsimp only
    rw [must_msg W_known.2.1]
    cases VbenCore.must e (W "asked") l with
    | error p => rfl
    | ok l =>
      dsimp only
      rw [numIn_msg]
      cases numIn e 0 ASKED l with
      | error p => rfl
      | ok z => rfl
theorem codeIn_msg (e : Nat) (had : List (List Nat)) (l : List Wd) : codeIn e had (l.map msg) = (match codeIn e had l with
    | .error p => .error p
    | .ok (n, r) => .ok (n, r.map msg)) := by
  unfold codeIn
  rw [nameIn_msg]
  cases nameIn e had l with
  | error p => rfl
  | ok z =>
    obtain ⟨n, l⟩ := z
    dsimp only
    rw [must_msg W_known.2.2.2.1]
    cases VbenCore.must e (W "holes") l with
    | error p => rfl
    | ok l =>
      dsimp only
      rw [numIn_msg]
      cases numIn e 0 HOLES l with
      | error p => rfl
      | ok z =>
        obtain ⟨h, l⟩ := z
        dsimp only
        rw [must_msg W_known.2.2.2.2.1]
        cases VbenCore.must e (W "cost") l with
        | error p => rfl
        | ok l =>
          dsimp only
          rw [numIn_msg]
          cases numIn e 0 COST l with
          | error p => rfl
          | ok z => rfl
theorem lineP_msg (fs : List Field) (e : Nat) (l : List Wd) : lineP fs e (l.map msg) = (match lineP fs e l with
    | .error p => .error p
    | .ok (n, r) => .ok (n, r.map msg)) := by
  cases l with
  | nil => rfl
  | cons w r =>
    show lineP fs e ((w.1, w.2.map sgn) :: r.map msg) = _
    unfold lineP
    dsimp only
    have e1 : (w.2.map sgn = W "field") ↔ w.2 = W "field" := map_sgn_eq W_known.1
    have e2 : (w.2.map sgn = W "code") ↔ w.2 = W "code" := map_sgn_eq W_known.2.2.1
    by_cases h1 : w.2 = W "field" ∧ fs.length < 10
    · rw [if_pos h1, if_pos ⟨e1.mpr h1.1, h1.2⟩, fieldIn_msg]
      cases fieldIn e (fs.map fun x => x.name) r with
      | error p => rfl
      | ok z => rfl
    · rw [if_neg h1, if_neg fun z => h1 ⟨e1.mp z.1, z.2⟩]
      by_cases h2 : w.2 = W "code" ∧ 0 < fs.length ∧ (lastCodes { holes := 0, fields := fs }).length < 8
      · rw [if_pos h2, if_pos ⟨e2.mpr h2.1, h2.2⟩, codeIn_msg]
        cases codeIn e ((lastCodes { holes := 0, fields := fs }).map fun c => c.name) r with
        | error p => rfl
        | ok z => rfl
      · rw [if_neg h2, if_neg fun z => h2 ⟨e2.mp z.1, z.2⟩]
theorem linesP_msg (e : Nat) : ∀ (g : Nat) (fs : List Field) (l : List Wd), linesP e g fs (l.map msg) = linesP e g fs l
  | 0, fs, l => by cases l <;> rfl
  | g + 1, fs, l => by
    unfold linesP
    have he : (l.map msg).isEmpty = l.isEmpty := by cases l <;> rfl
    rw [he]
    by_cases h : l.isEmpty = true
    · rw [if_pos h, if_pos h]
    · rw [if_neg h, if_neg h, must_msg W_known.2.2.2.2.2]
      cases VbenCore.must e [10] l with
      | error p => rfl
      | ok l =>
        dsimp only
        rw [lineP_msg]
        cases lineP fs e l with
        | error p => rfl
        | ok z =>
          obtain ⟨fs', l⟩ := z
          exact linesP_msg e g fs' l
theorem readFile_do (t : List Nat) : readFile t = (match VbenCore.must t.length (W "holes") (VbenCore.cut 0 t) with
  | .error p => .error p
  | .ok l => match numIn t.length 0 HOLES l with
    | .error p => .error p
    | .ok (h, l) => linesIn t.length (l.length + 1) { holes := h, fields := [] } l) := by
  unfold readFile
  simp only [bind, Except.bind]
  cases VbenCore.must t.length (W "holes") (VbenCore.cut 0 t) with
  | error p => rfl
  | ok l =>
    dsimp only
    cases numIn t.length 0 HOLES l with
    | error p => rfl
    | ok z => rfl
theorem readFileP_eq (t : List Nat) : readFileP t = readFile t := by
  rw [readFile_do]
  unfold readFileP
  rw [wordsI_cut, must_msg W_known.2.2.2.1]
  cases VbenCore.must t.length (W "holes") (VbenCore.cut 0 t) with
  | error p => rfl
  | ok l =>
    dsimp only
    rw [numIn_msg]
    cases numIn t.length 0 HOLES l with
    | error p => rfl
    | ok z =>
      obtain ⟨h, l⟩ := z
      dsimp only
      rw [List.length_map, linesP_msg, linesIn_P]
theorem readLineP_eq (f : File) (t : List Nat) : readLineP f.fields t = (match readLine f t with
    | .error p => .error p
    | .ok x => .ok (putLine f x).fields) := by
  unfold readLineP readLine
  rw [wordsI_cut, lineP_msg]
  have q := lineIn_P f t.length (VbenCore.cut 0 t)
  cases e2 : lineIn f t.length (VbenCore.cut 0 t) with
  | error p =>
    rw [e2] at q
    rw [← q]
    rfl
  | ok z =>
    obtain ⟨x, l⟩ := z
    rw [e2] at q
    rw [← q]
    simp only [bind, Except.bind]
    cases l with
    | nil => rfl
    | cons w r => rfl
/-! what is read keeps to the document -/
theorem name_ok {e : Nat} {had : List (List Nat)} {l r : List Wd} {n : List Nat} (h : nameIn e had l = .ok (n, r)) : 1 ≤ n.length ∧ n.length ≤ 12 ∧ (∀ b ∈ n, 97 ≤ b ∧ b ≤ 122) ∧ r.length < l.length := by
  cases l with
  | nil => cases h
  | cons w l =>
    unfold nameIn at h
    dsimp only at h
    split at h
    · rename_i q
      cases h
      have q1 := q.1
      unfold VbenCore.isName at q1
      simp only [Bool.and_eq_true, decide_eq_true_eq] at q1
      refine ⟨q1.1, q1.2.1, fun b hb => ?_, Nat.lt_succ_self _⟩
      have := List.all_eq_true.mp q1.2.2 b hb
      unfold VbenCore.isLetter at this
      simpa only [Bool.and_eq_true, decide_eq_true_eq] using this
    · cases h
theorem num_ok {e hi n : Nat} {l r : List Wd} (h : numIn e 0 hi l = .ok (n, r)) : n ≤ hi ∧ r.length < l.length := by
  cases l with
  | nil => cases h
  | cons w l =>
    unfold numIn at h
    dsimp only at h
    split at h
    · split at h
      · rename_i q
        cases h
        exact ⟨q.2, Nat.lt_succ_self _⟩
      · cases h
    · cases h
theorem must_ok {e : Nat} {b : List Nat} {l r : List Wd} (h : VbenCore.must e b l = .ok r) : ∃ w, l = w :: r ∧ w.2 = b := by
  cases l with
  | nil => cases h
  | cons w l =>
    unfold VbenCore.must at h
    dsimp only at h
    split at h
    · rename_i q
      cases h
      exact ⟨w, rfl, q⟩
    · cases h
theorem fieldIn_ok {e : Nat} {had : List (List Nat)} {l r : List Wd} {x : Field} (h : fieldIn e had l = .ok (x, r)) : OkX x ∧ x.codes = [] ∧ r.length < l.length := by
  unfold fieldIn at h
  cases e1 : nameIn e had l with
  | error p => rw [e1] at h; cases h
  | ok z =>
    obtain ⟨n, l1⟩ := z
    rw [e1] at h
    dsimp only at h
    obtain ⟨n1, n2, n3, n4⟩ := name_ok e1
    cases e2 : VbenCore.must e (W "asked") l1 with
    | error p => rw [e2] at h; cases h
    | ok l2 =>
      rw [e2] at h
      dsimp only at h
      obtain ⟨w, rfl, _⟩ := must_ok e2
      cases e3 : numIn e 0 ASKED l2 with
      | error p => rw [e3] at h; cases h
      | ok z =>
        obtain ⟨k, l3⟩ := z
        rw [e3] at h
        cases h
        obtain ⟨k1, k2⟩ := num_ok e3
        rw [List.length_cons] at n4
        exact ⟨⟨k1, by simp, (fun c hc => by cases hc), n1, n2, n3⟩, rfl, by omega⟩
theorem codeIn_ok {e : Nat} {had : List (List Nat)} {l r : List Wd} {x : Code} (h : codeIn e had l = .ok (x, r)) : OkC x ∧ r.length < l.length := by
  unfold codeIn at h
  cases e1 : nameIn e had l with
  | error p => rw [e1] at h; cases h
  | ok z =>
    obtain ⟨n, l1⟩ := z
    rw [e1] at h
    dsimp only at h
    obtain ⟨n1, n2, n3, n4⟩ := name_ok e1
    cases e2 : VbenCore.must e (W "holes") l1 with
    | error p => rw [e2] at h; cases h
    | ok l2 =>
      rw [e2] at h
      dsimp only at h
      obtain ⟨w, rfl, _⟩ := must_ok e2
      rw [List.length_cons] at n4
      cases e3 : numIn e 0 HOLES l2 with
      | error p => rw [e3] at h; cases h
      | ok z =>
        obtain ⟨k, l3⟩ := z
        rw [e3] at h
        dsimp only at h
        obtain ⟨k1, k2⟩ := num_ok e3
        cases e4 : VbenCore.must e (W "cost") l3 with
        | error p => rw [e4] at h; cases h
        | ok l4 =>
          rw [e4] at h
          dsimp only at h
          obtain ⟨w2, rfl, _⟩ := must_ok e4
          rw [List.length_cons] at k2
          cases e5 : numIn e 0 COST l4 with
          | error p => rw [e5] at h; cases h
          | ok z =>
            obtain ⟨c, l5⟩ := z
            rw [e5] at h
            cases h
            obtain ⟨c1, c2⟩ := num_ok e5
            exact ⟨⟨k1, c1, n1, n2, n3⟩, by omega⟩
structure OkFs (fs : List Field) : Prop where
  n : fs.length ≤ 10
  x : ∀ x ∈ fs, OkX x
theorem lineP_ok {fs fs' : List Field} {e : Nat} {l r : List Wd} (hf : OkFs fs) (h : lineP fs e l = .ok (fs', r)) : OkFs fs' ∧ r.length < l.length := by
  cases l with
  | nil => cases h
  | cons w l =>
    unfold lineP at h
    dsimp only at h
    split at h
    · rename_i q
      cases e1 : fieldIn e (fs.map fun x => x.name) l with
      | error p => rw [e1] at h; cases h
      | ok z =>
        obtain ⟨x, l1⟩ := z
        rw [e1] at h
        cases h
        obtain ⟨x1, _, x2⟩ := fieldIn_ok e1
        refine ⟨⟨?_, fun y hy => ?_⟩, by rw [List.length_cons]; omega⟩
        · rw [List.length_append, List.length_singleton]
          omega
        · rcases List.mem_append.mp hy with z | z
          · exact hf.x y z
          · rw [List.mem_singleton.mp z]
            exact x1
    · split at h
      · rename_i q
        cases e1 : codeIn e ((lastCodes { holes := 0, fields := fs }).map fun c => c.name) l with
        | error p => rw [e1] at h; cases h
        | ok z =>
          obtain ⟨c, l1⟩ := z
          rw [e1] at h
          dsimp only at h
          obtain ⟨c1, c2⟩ := codeIn_ok e1
          have hne : fs ≠ [] := fun z => by rw [z] at q; exact absurd q.2.1 (by simp)
          have sn : fs = fs.dropLast ++ [fs.getLast hne] := (List.dropLast_concat_getLast hne).symm
          have e2 : (putLine { holes := 0, fields := fs } (.code c)).fields = fs.dropLast ++ [{ fs.getLast hne with codes := (fs.getLast hne).codes ++ [c] }] := putLine_code sn
          rw [e2] at h
          cases h
          have lc : lastCodes { holes := 0, fields := fs } = (fs.getLast hne).codes := lastCodes_snoc sn
          have ol := hf.x _ (List.getLast_mem hne)
          refine ⟨⟨?_, fun y hy => ?_⟩, by rw [List.length_cons]; omega⟩
          · rw [List.length_append, List.length_singleton, List.length_dropLast]
            have := hf.n
            omega
          · rcases List.mem_append.mp hy with z | z
            · exact hf.x y (List.dropLast_subset _ z)
            · rw [List.mem_singleton.mp z]
              refine ⟨ol.a, ?_, fun d hd => ?_, ol.n1, ol.n2, ol.n3⟩
              · show ((fs.getLast hne).codes ++ [c]).length ≤ 8
                rw [List.length_append, List.length_singleton]
                rw [lc] at q
                omega
              · rcases List.mem_append.mp hd with z | z
                · exact ol.c d z
                · rw [List.mem_singleton.mp z]
                  exact c1
      · cases h
theorem linesP_ok (e : Nat) : ∀ (g : Nat) (fs fs' : List Field) (l : List Wd), OkFs fs → linesP e g fs l = .ok fs' → OkFs fs'
  | 0, fs, fs', l, _, h => by cases h
  | g + 1, fs, fs', l, hf, h => by
    unfold linesP at h
    split at h
    · cases h
      exact hf
    · cases e1 : VbenCore.must e [10] l with
      | error p => rw [e1] at h; cases h
      | ok l2 =>
        rw [e1] at h
        dsimp only at h
        cases e2 : lineP fs e l2 with
        | error p => rw [e2] at h; cases h
        | ok z =>
          obtain ⟨fs2, l3⟩ := z
          rw [e2] at h
          exact linesP_ok e g fs2 fs' l3 (lineP_ok hf e2).1 h
theorem readFileP_ok {t : List Nat} {g : File} (h : readFileP t = .ok g) : OkF g := by
  unfold readFileP at h
  cases e1 : VbenCore.must t.length (W "holes") (wordsI t) with
  | error p => rw [e1] at h; cases h
  | ok l =>
    rw [e1] at h
    dsimp only at h
    cases e2 : numIn t.length 0 HOLES l with
    | error p => rw [e2] at h; cases h
    | ok z =>
      obtain ⟨n, l2⟩ := z
      rw [e2] at h
      dsimp only at h
      cases e3 : linesP t.length (l2.length + 1) [] l2 with
      | error p => rw [e3] at h; cases h
      | ok fs =>
        rw [e3] at h
        cases h
        have o := linesP_ok _ _ _ _ _ ⟨by simp, (fun x hx => by cases hx)⟩ e3
        exact ⟨(num_ok e2).1, o.n, o.x⟩
theorem readLineP_ok {fs fs' : List Field} {t : List Nat} (hf : OkFs fs) (h : readLineP fs t = .ok fs') : OkFs fs' ∧ fs' ≠ [] := by
  unfold readLineP at h
  cases e1 : lineP fs t.length (wordsI t) with
  | error p => rw [e1] at h; cases h
  | ok z =>
    obtain ⟨fs2, l⟩ := z
    rw [e1] at h
    dsimp only at h
    cases l with
    | cons w r => cases h
    | nil =>
      cases h
      refine ⟨(lineP_ok hf e1).1, ?_⟩
      revert e1
      generalize wordsI t = ws
      intro e1 hz
      cases ws with
      | nil => cases e1
      | cons w l =>
        unfold lineP at e1
        dsimp only at e1
        split at e1
        · cases e2 : fieldIn t.length (fs.map fun x => x.name) l with
          | error p => rw [e2] at e1; cases e1
          | ok z =>
            rw [e2] at e1
            injection e1 with e1
            injection e1 with e1 _
            rw [← e1] at hz
            simp at hz
        · split at e1
          · rename_i q
            cases e2 : codeIn t.length ((lastCodes { holes := 0, fields := fs }).map fun c => c.name) l with
            | error p => rw [e2] at e1; cases e1
            | ok y =>
              rw [e2] at e1
              injection e1 with e1
              injection e1 with e1 _
              have hne : fs ≠ [] := fun z => by rw [z] at q; exact absurd q.2.1 (by simp)
              have sn : fs = fs.dropLast ++ [fs.getLast hne] := (List.dropLast_concat_getLast hne).symm
              rw [putLine_code sn] at e1
              rw [← e1] at hz
              simp at hz
          · cases e1
end Nt

set_option maxHeartbeats 4000000
namespace Nt
open PySem PySem.Spec PyProof.Rows L2 Evl
open C8 (Cal Mak Met pe_c pe_mk pe_mt pe_mt0 pe_gc)
/-! ### the words of a text, taken one behind another -/
abbrev cW : PySem.Str := "Words"
theorem q_fldI {K : PySem.W.Frag} {σ : L2.St} {H : Hp} {ta tv : TE} {D1 : Ends} {tz : TS} {y : V} {a dx : Addr} {c f : PySem.Str} {fs : List (PySem.Str × V)} (hv : Ev tv σ H y) (ho : Ev ta σ H (.ref a)) (ha : H a = some (.ins (He.ga K c) dx fs)) (A : At K c f) (hz : fs.length < 1000)
    (k : ∀ H1, Ex H H1 → tz D1 σ (upd H1 a (.ins (He.ga K c) dx (putF f y fs)))) : tSeq (sFld K ta tv f) tz D1 σ H := s_fldI (D1 := { D1 with nx := tz D1 }) hv ho ha A hz k
theorem q_fldD {K : PySem.W.Frag} {σ : L2.St} {H : Hp} {ta tv : TE} {D1 : Ends} {tz : TS} {d : D} {a dx : Addr} {c f : PySem.Str} {fs : List (PySem.Str × V)} (hv : EvD K tv σ H d) (ho : Ev ta σ H (.ref a)) (ha : H a = some (.ins (He.ga K c) dx fs)) (A : At K c f) (hz : fs.length < 1000)
    (k : ∀ y H1, Ex H H1 → Is K H1 y d → tz D1 σ (upd H1 a (.ins (He.ga K c) dx (putF f y fs)))) : tSeq (sFld K ta tv f) tz D1 σ H :=
  hv H (Ex.refl H) _ fun y H1 e1 iy => ho H1 e1 _ fun H2 e2 => ⟨a, _, dx, fs, rfl, (e1.trans e2) _ _ ha, A.cls, A.no, hz, k y H2 (e1.trans e2) (iy.mono e2)⟩
theorem s_fldD {K : PySem.W.Frag} {σ : L2.St} {H : Hp} {ta tv : TE} {D1 : Ends} {d : D} {a dx : Addr} {c f : PySem.Str} {fs : List (PySem.Str × V)} (hv : EvD K tv σ H d) (ho : Ev ta σ H (.ref a)) (ha : H a = some (.ins (He.ga K c) dx fs)) (A : At K c f) (hz : fs.length < 1000)
    (k : ∀ y H1, Ex H H1 → Is K H1 y d → D1.nx σ (upd H1 a (.ins (He.ga K c) dx (putF f y fs)))) : sFld K ta tv f D1 σ H :=
  hv H (Ex.refl H) _ fun y H1 e1 iy => ho H1 e1 _ fun H2 e2 => ⟨a, _, dx, fs, rfl, (e1.trans e2) _ _ ha, A.cls, A.no, hz, k y H2 (e1.trans e2) (iy.mono e2)⟩
def wordsD (a : List Wd × Nat × Nat) : D := .ins cW ["words", "length", "taken"] [.lst (a.1.map wordD), .i a.2.1, .i a.2.2]
def aheadL : List Wd → List Nat
  | [] => []
  | w :: _ => w.2
structure OkW (ws : List Wd) : Prop where
  o : ∀ w ∈ ws, ∀ c ∈ w.2, okc c = true
  l : ∀ w ∈ ws, w.2.length ≤ 2000
  m : ws.length ≤ 5000
/-- a Words at wa, Hb: what else stands -/
structure WA (K : PySem.W.Frag) (wa dx : Addr) (wl : V) (ws : List Wd) (n : Nat) (Hb H : Hp) (k : Nat) : Prop where
  e : Ex Hb H
  f : Hb wa = none
  w : Is K Hb wl (.lst (ws.map wordD))
  i : H wa = some (.ins (He.ga K cW) dx [("words", wl), ("length", .int (n : Nat)), ("taken", .int (k : Nat))])
  k : k ≤ ws.length
section
variable {K : PySem.W.Frag} {wa dx : Addr} {wl : V} {ws : List Wd} {n k k' : Nat} {Hb Hb2 H H' : Hp}
theorem WA.is (W : WA K wa dx wl ws n Hb H k) : Is K H (.ref wa) (wordsD (ws, n, k)) := .ins (xs := [wl, .int (n : Nat), .int (k : Nat)]) W.i rfl (.cons (W.w.mono W.e) (.cons (.v _) (.cons (.v _) .nil)))
theorem WA.mono (W : WA K wa dx wl ws n Hb H k) (e : Ex H H') : WA K wa dx wl ws n Hb H' k := ⟨W.e.trans e, W.f, W.w, e _ _ W.i, W.k⟩
theorem WA.exd (W : WA K wa dx wl ws n Hb H k) : Ex Hb (del H wa) := ex_to_del W.e W.f
theorem WA.up (W : WA K wa dx wl ws n Hb H k) : WA K wa dx wl ws n (del H wa) H k := ⟨ex_del H wa, del_same, W.w.mono W.exd, W.i, W.k⟩
theorem WA.down (W : WA K wa dx wl ws n Hb H k) (e : Ex Hb Hb2) (W' : WA K wa dx wl ws n Hb2 H' k') : WA K wa dx wl ws n Hb H' k' := ⟨e.trans W'.e, W.f, W.w, W'.i, W'.k⟩
theorem WA.to (W : WA K wa dx wl ws n Hb H k) (e : Ex Hb H') (hi : H' wa = some (.ins (He.ga K cW) dx [("words", wl), ("length", .int (n : Nat)), ("taken", .int (k' : Nat))])) (hk : k' ≤ ws.length) : WA K wa dx wl ws n Hb H' k' := ⟨e, W.f, W.w, hi, hk⟩
end
theorem drop_at {α : Type} {l : List α} {k : Nat} (h : k < l.length) : l.drop k = l[k] :: l.drop (k + 1) := List.drop_eq_getElem_cons h
theorem drop_end {α : Type} {l : List α} {k : Nat} (hk : k ≤ l.length) : l.drop k = [] ↔ k = l.length := by
  rw [List.drop_eq_nil_iff]
  omega
/-! lengths of words -/
theorem wl_mem : ∀ (l : List (List Nat)) (p : Nat) (w : Wd), w ∈ wl p l → w.2 ∈ l
  | [], _, _, h => by cases h
  | x :: r, p, w, h => by
    rcases List.mem_cons.mp h with e | e
    · rw [e]; exact List.mem_cons_self
    · exact List.mem_cons_of_mem _ (wl_mem r _ w e)
theorem wf_mem : ∀ (b : Bool) (ls : List (List Nat)) (p : Nat) (w : Wd), w ∈ wf b p ls → w.2 = [10] ∨ ∃ l ∈ ls, w.2 ∈ splitOn 32 l
  | b, [], _, w, h => by cases b <;> cases h
  | true, l :: r, p, w, h => by
    rcases List.mem_append.mp (show w ∈ wl p (splitOn 32 l) ++ wf false (p + l.length) r from h) with e | e
    · exact .inr ⟨l, List.mem_cons_self, wl_mem _ _ _ e⟩
    · rcases wf_mem false r _ w e with z | ⟨l2, h2, z⟩
      · exact .inl z
      · exact .inr ⟨l2, List.mem_cons_of_mem _ h2, z⟩
  | false, l :: r, p, w, h => by
    rcases List.mem_cons.mp (show w ∈ (p, [10]) :: (wl (p + 1) (splitOn 32 l) ++ wf false (p + 1 + l.length) r) from h) with e | e
    · rw [e]; exact .inl rfl
    · rcases List.mem_append.mp e with e | e
      · exact .inr ⟨l, List.mem_cons_self, wl_mem _ _ _ e⟩
      · rcases wf_mem false r _ w e with z | ⟨l2, h2, z⟩
        · exact .inl z
        · exact .inr ⟨l2, List.mem_cons_of_mem _ h2, z⟩
theorem wordsI_ok {t : List Nat} (ht : t.length ≤ 2000) : OkW (wordsI t) := by
  refine ⟨wordsI_okc t, fun w hw => ?_, ?_⟩
  · rcases wf_mem true _ 0 w hw with e | ⟨l, hl, e⟩
    · rw [e]; decide
    · have h1 := splitOn_mem e
      have h2 := splitOn_mem hl
      rw [List.length_map] at h2
      omega
  · unfold wordsI
    have h1 := words_of.wf_len true 0 (splitOn 10 (t.map sgn))
    have h3 := words_of.sum_add_one (splitOn 10 (t.map sgn))
    have h4 := splitOn_len 10 (t.map sgn)
    rw [splitOn_sum, List.length_map] at h3
    rw [List.length_map] at h4
    omega
section
variable {P : Program} {w : World} {K : PySem.W.Frag} {mg : PySem.Str → Option Value} {base : Heap}
section
variable {σ : L2.St} {H : Hp} {te : TE} {a : List Wd × Nat × Nat}
theorem ed_words (T : Txt K mg) (h : EvD K te σ H (wordsD a)) : EvD K (tFld K te "words") σ H (.lst (a.1.map wordD)) := ed_fld h T.a_Words_words rfl
theorem ed_length (T : Txt K mg) (h : EvD K te σ H (wordsD a)) : Ev (tFld K te "length") σ H (.int (a.2.1 : Nat)) := ev_fld h T.a_Words_length rfl
theorem ed_taken (T : Txt K mg) (h : EvD K te σ H (wordsD a)) : Ev (tFld K te "taken") σ H (.int (a.2.2 : Nat)) := ev_fld h T.a_Words_taken rfl
theorem ed_wplace (T : Txt K mg) {v : Wd} (h : EvD K te σ H (wordD v)) : Ev (tFld K te "place") σ H (.int (v.1 : Nat)) := ev_fld h T.a_Word_place rfl
theorem ed_wsigns (T : Txt K mg) {v : Wd} (h : EvD K te σ H (wordD v)) : Ev (tFld K te "signs") σ H (.str (bS v.2)) := ev_fld h T.a_Word_signs rfl
end
namespace Words_ended
def sp (K : PySem.W.Frag) : Sp := spF K (fun a : List Wd × Nat × Nat => True) (fun a => [wordsD a]) fun a => .v (.bl (decide (a.2.2 = a.1.length)))
theorem len : ∀ vs H Q E, sp K vs H Q E → vs.length = 1 := spF_len fun _ => rfl
abbrev sS : Stmt := s_Words_ended
abbrev nN : List PySem.Str := ["self"]
theorem sc : FnScope nN ["self"] (defScope sS) := ⟨rfl, rfl, rfl, by decide +kernel, rfl, by decide +kernel, by decide +kernel⟩
theorem ok (T : Txt K mg) : Met P w K mg base 1 (He.ga K "Words") "ended" (sp K) [] := by
  refine met_of T.h_Words_ended.1 T.k_Words.1 T.h_Words_ended.2 sc len (fun _ _ _ _ _ _ us hl => match us, hl with | [_], _ => rfl) fun cdv A outer s H vs Q E hr hs => ⟨_, PSs.nox (pss_one (ps_ret (pe_cmpR op_eq (pe_fld (pv 0) rfl) (pe_callB call_len_seq (by rfl) T.f_len PySem.boot_len (pa_cons (pe_fld (pv 0) rfl) pa_nil)) (nomark _)))), ?_⟩
  obtain ⟨a, _, i, k⟩ := hs
  obtain ⟨x0, rfl, h0⟩ := i.a1
  refine s_retD (EvD.eq (ed_v (ev_op (ed_taken T (ed_var rfl h0)) (ev_lenD (ed_words T (ed_var rfl h0))) (rv_eq rfl))) ?_) k
  rw [List.length_map]
  congr 2
  simp
  omega
end Words_ended
namespace Words_ahead
def sp (K : PySem.W.Frag) : Sp := spF K (fun a : List Wd × Nat × Nat => a.2.2 ≤ a.1.length) (fun a => [wordsD a]) fun a => .v (.str (bS (aheadL (a.1.drop a.2.2))))
theorem len : ∀ vs H Q E, sp K vs H Q E → vs.length = 1 := spF_len fun _ => rfl
abbrev sS : Stmt := s_Words_ahead
abbrev nN : List PySem.Str := ["self"]
theorem sc : FnScope nN ["self"] (defScope sS) := ⟨rfl, rfl, rfl, by decide +kernel, rfl, by decide +kernel, by decide +kernel⟩
theorem ok (T : Txt K mg) : Met P w K mg base 2 (He.ga K "Words") "ahead" (sp K) [] := by
  have d_Words_ended := Words_ended.ok (P := P) (w := w) (base := base) T
  refine met_of T.h_Words_ahead.1 T.k_Words.1 T.h_Words_ahead.2 sc len (fun _ _ _ _ _ _ us hl => match us, hl with | [_], _ => rfl) fun cdv A outer s H vs Q E hr hs => ⟨_, PSs.nox (pss_one (ps_ret (pe_ifExp (pt_val (pe_mt0 d_Words_ended hr (by decide) (pv 0))) pe_str (pe_fld (pe_ix ix_list (pe_fld (pv 0) rfl) (pe_fld (pv 0) rfl) (fun _ _ => rfl)) rfl)))), ?_⟩
  obtain ⟨⟨ws, n, m⟩, hm, i, k⟩ := hs
  obtain ⟨x0, rfl, h0⟩ := i.a1
  dsimp only at hm h0 k
  refine s_retD (ed_v (ev_if (b := decide (m = ws.length)) (et_test (ev_is (ed_methF (K := K) (es := []) (ns := ["words", "length", "taken"]) (ws, n, m) (ed_var rfl h0) rfl ad_nil trivial rfl).ev rfl)) (fun z => ?_) fun z => ?_)) k
  · rw [(drop_end hm).mpr (of_decide_eq_true z)]
    exact ev_c
  · have hlt : m < ws.length := by have := of_decide_eq_false z; omega
    rw [drop_at hlt]
    exact ed_wsigns T (ed_ix (d := wordD ws[m]) (i := (m : Nat)) (ed_words T (ed_var rfl h0)) (ed_taken T (ed_var rfl h0)) (atI_nat' (by rw [List.getElem?_map, List.getElem?_eq_getElem hlt]; rfl)))
end Words_ahead
namespace Words_where
def sp (K : PySem.W.Frag) : Sp := spF K (fun a : List Wd × Nat × Nat => a.2.2 ≤ a.1.length) (fun a => [wordsD a]) fun a => .i (VbenCore.placeOf a.2.1 (a.1.drop a.2.2))
theorem len : ∀ vs H Q E, sp K vs H Q E → vs.length = 1 := spF_len fun _ => rfl
abbrev sS : Stmt := s_Words_where
abbrev nN : List PySem.Str := ["self"]
theorem sc : FnScope nN ["self"] (defScope sS) := ⟨rfl, rfl, rfl, by decide +kernel, rfl, by decide +kernel, by decide +kernel⟩
theorem ok (T : Txt K mg) : Met P w K mg base 2 (He.ga K "Words") "where" (sp K) [] := by
  have d_Words_ended := Words_ended.ok (P := P) (w := w) (base := base) T
  refine met_of T.h_Words_where.1 T.k_Words.1 T.h_Words_where.2 sc len (fun _ _ _ _ _ _ us hl => match us, hl with | [_], _ => rfl) fun cdv A outer s H vs Q E hr hs => ⟨_, PSs.nox (pss_one (ps_ret (pe_ifExp (pt_val (pe_mt0 d_Words_ended hr (by decide) (pv 0))) (pe_fld (pv 0) rfl) (pe_fld (pe_ix ix_list (pe_fld (pv 0) rfl) (pe_fld (pv 0) rfl) (fun _ _ => rfl)) rfl)))), ?_⟩
  obtain ⟨⟨ws, n, m⟩, hm, i, k⟩ := hs
  obtain ⟨x0, rfl, h0⟩ := i.a1
  dsimp only at hm h0 k
  refine s_retD (ed_v (ev_if (b := decide (m = ws.length)) (et_test (ev_is (ed_methF (K := K) (es := []) (ns := ["words", "length", "taken"]) (ws, n, m) (ed_var rfl h0) rfl ad_nil trivial rfl).ev rfl)) (fun z => ?_) fun z => ?_)) k
  · rw [(drop_end hm).mpr (of_decide_eq_true z)]
    exact ed_length T (ed_var rfl h0)
  · have hlt : m < ws.length := by have := of_decide_eq_false z; omega
    rw [drop_at hlt]
    exact ed_wplace T (ed_ix (d := wordD ws[m]) (i := (m : Nat)) (ed_words T (ed_var rfl h0)) (ed_taken T (ed_var rfl h0)) (atI_nat' (by rw [List.getElem?_map, List.getElem?_eq_getElem hlt]; rfl)))
end Words_where
namespace Words_move_on
def sp (K : PySem.W.Frag) : Sp := fun vs H Q _ => ∃ wa dx wl ws n Hb k, vs = [.ref wa] ∧ WA K wa dx wl ws n Hb H k ∧ k < ws.length ∧ ∀ H', WA K wa dx wl ws n Hb H' (k + 1) → Q .non H'
theorem len : ∀ vs H Q E, sp K vs H Q E → vs.length = 1 := fun vs H Q E ⟨wa, dx, wl, ws, n, Hb, k, e, _⟩ => by rw [e]; rfl
abbrev sS : Stmt := s_Words_move_on
abbrev nN : List PySem.Str := ["self"]
theorem sc : FnScope nN ["self"] (defScope sS) := ⟨rfl, rfl, rfl, by decide +kernel, rfl, by decide +kernel, by decide +kernel⟩
theorem ok (T : Txt K mg) : Met P w K mg base 1 (He.ga K "Words") "move_on" (sp K) [] := by
  refine met_of T.h_Words_move_on.1 T.k_Words.1 T.h_Words_move_on.2 sc len (fun _ _ _ _ _ _ us hl => match us, hl with | [_], _ => rfl) fun cdv A outer s H vs Q E hr hs => ⟨_, PSs.nox (pss_one (ps_fldaug (pv 0) pe_int in_add)), ?_⟩
  obtain ⟨wa, dx, wl, ws, n, Hb, k, rfl, W, hk, q⟩ := hs
  refine ⟨.ref wa, rfl, wa, _, dx, _, .int (k : Nat), rfl, W.i, T.k_Words.1, T.a_Words_taken.no, rfl, ⟨(k : Nat), 1, rfl, rfl, ⟨dx, _, W.i, by simp, ?_⟩⟩⟩
  refine q _ (W.to (Ex.mut W.e W.f) ?_ hk)
  rw [upd_same]
  rfl
end Words_move_on
theorem noW_word (T : Txt K mg) (v : Wd) : NoC K (He.ga K cW) (wordD v) := .ins T.q_Word_Words fun d hd => by
  rcases List.mem_cons.mp hd with e | hd
  · rw [e]; exact .v _
  · rw [List.mem_singleton.mp hd]; exact .v _
theorem noW_code (T : Txt K mg) (v : NC) : NoC K (He.ga K cW) (codeD v) := .ins T.q_Code_Words fun d hd => by
  rcases List.mem_cons.mp hd with e | hd
  · rw [e]; exact .v _
  · rcases List.mem_cons.mp hd with e | hd
    · rw [e]; exact .v _
    · rw [List.mem_singleton.mp hd]; exact .v _
theorem noW_field (T : Txt K mg) (v : NX) : NoC K (He.ga K cW) (fieldD v) := .ins T.q_Field_Words fun d hd => by
  rcases List.mem_cons.mp hd with e | hd
  · rw [e]; exact .v _
  · rcases List.mem_cons.mp hd with e | hd
    · rw [e]; exact .v _
    · rw [List.mem_singleton.mp hd]
      exact .lst fun d hd => by
        obtain ⟨c, _, rfl⟩ := List.mem_map.mp hd
        exact noW_code T c
theorem noW_map {α : Type} {fD : α → D} {C : Addr} (h : ∀ a, NoC K C (fD a)) (l : List α) : NoC K C (.lst (l.map fD)) := .lst fun d hd => by
  obtain ⟨c, _, rfl⟩ := List.mem_map.mp hd
  exact h c
namespace Words_init
def sp (K : PySem.W.Frag) : Sp := fun vs H Q _ => ∃ (p dx : Addr) (x1 : V) (t : List Nat), vs = [.ref p, x1] ∧ (t.length ≤ 2000 ∧ ∀ b ∈ t, b < 256) ∧ Is K H x1 (natsD t) ∧ H p = some (.ins (He.ga K cW) dx []) ∧
  ∀ H' wl, (∀ b o, b ≠ p → H b = some o → H' b = some o) → Is K (del H' p) wl (.lst ((wordsI t).map wordD)) → H' p = some (.ins (He.ga K cW) dx [("words", wl), ("length", .int (t.length : Nat)), ("taken", .int 0)]) → Q .non H'
theorem len : ∀ vs H Q E, sp K vs H Q E → vs.length = 2 := fun vs H Q E ⟨p, dx, x1, t, e, _⟩ => by rw [e]; rfl
abbrev sS : Stmt := s_Words_init
abbrev nN : List PySem.Str := ["self", "text"]
theorem sc : FnScope nN ["self", "text"] (defScope sS) := ⟨rfl, rfl, rfl, by decide +kernel, rfl, by decide +kernel, by decide +kernel⟩
theorem ok (T : Txt K mg) : Mak P w K mg base 5 "Words" (He.ga K "Words") (sp K) [] := by
  have d_words_of := words_of.ok (P := P) (w := w) (base := base) T
  have d_signs_of := signs_of.ok (P := P) (w := w) (base := base) T
  refine mak_of T.i_Words T.k_Words.2.2 T.k_Words.2.1 sc len (fun _ _ _ _ _ _ us hl => match us, hl with | [_, _], _ => rfl) fun cdv A outer s H vs Q E hr hs => ⟨_, PSs.nox (pss_cons (ps_fld (pv 0) (pe_c d_words_of hr (by decide) rfl (pa_cons (pe_c d_signs_of hr (by decide) rfl (pa_cons (pv 1) pa_nil)) pa_nil)) rfl) (pss_cons (ps_fld (pv 0) (pe_callB call_len_seq (by rfl) T.f_len PySem.boot_len (pa_cons (pv 1) pa_nil)) rfl) (pss_one (ps_fld (pv 0) pe_int rfl)))), ?_⟩
  obtain ⟨p, dx, x1, t, rfl, ⟨ht, hb⟩, h1, hp, k⟩ := hs
  have hb2 : ((t.map sgn).length ≤ 2000) := by rw [List.length_map]; exact ht
  refine q_fldD (d := .lst ((wordsI t).map wordD)) (ed_callF (t.map sgn) (ad1 (ed_callF t (ad1 (ed_var rfl h1)) ⟨ht, hb⟩)) hb2) (ev_var rfl) hp T.a_Words_words (by decide) fun y H1 e1 iy => ?_
  have iy2 : Is K (del H1 p) y (.lst ((wordsI t).map wordD)) := iy.del (e1 _ _ hp) (noW_map (noW_word T) _)
  have ed1 : ∀ o, Ex (del H1 p) (upd H1 p o) := fun o b u hb => by
    have nb : b ≠ p := fun z => by rw [z, del_same] at hb; cases hb
    rw [del_ne nb] at hb
    rw [upd_ne nb]
    exact hb
  have h2 : Is K (upd H1 p (.ins (He.ga K cW) dx (putF "words" y []))) x1 (natsD t) := by
    refine (h1.del hp ?_).mono fun b o hb => ?_
    · exact (noW_map (fun n => .v _) t)
    · have nb : b ≠ p := fun z => by rw [z, del_same] at hb; cases hb
      rw [del_ne nb] at hb
      rw [upd_ne nb]
      exact e1 _ _ hb
  refine q_fldI (y := .int (t.length : Nat)) (ev_is (ev_lenD (ed_var rfl h2)) (by rw [List.length_map])) (ev_var rfl) upd_same T.a_Words_length put1 fun H2 e2 => ?_
  refine s_fldI ev_c (ev_var rfl) upd_same T.a_Words_taken put2 fun H3 e3 => ?_
  refine k _ y (fun b o nb hb => ?_) ?_ ?_
  · rw [upd_ne nb]
    refine e3 _ _ ?_
    rw [upd_ne nb]
    refine e2 _ _ ?_
    rw [upd_ne nb]
    exact e1 _ _ hb
  · rw [del_upd]
    refine iy2.mono fun b o hb => ?_
    have nb : b ≠ p := fun z => by rw [z, del_same] at hb; cases hb
    rw [del_ne nb] at hb ⊢
    refine e3 _ _ ?_
    rw [upd_ne nb]
    refine e2 _ _ ?_
    rw [upd_ne nb]
    exact hb
  · rw [upd_same]
    rfl
end Words_init
/-- words = Words(text) -/
theorem q_words {σ : L2.St} {H : Hp} {D1 : Ends} {t1 : TE} {tz : TS} {E : XK} {i : Nat} {t : List Nat} (h : EvD K t1 σ H (natsD t)) (ht : t.length ≤ 2000) (hb : ∀ b ∈ t, b < 256)
    (k : ∀ wa dx wl Hb H', Ex H Hb → WA K wa dx wl (wordsI t) t.length Hb H' 0 → tz D1 (σ.set i (some (.ref wa))) H') : tSeq (tAsg (tMake (He.ga K cW) (Words_init.sp K) [] E (tCons t1 tNil)) (gName i)) tz D1 σ H :=
  h H (Ex.refl H) _ fun x H1 e1 ix p dx hp hd ne => by
    have ex1 : Ex H1 (upd (upd H1 dx (.own p)) p (.ins (He.ga K cW) dx [])) := fun b o hb => by rw [upd_ne (ne_of_none hb hp), upd_ne (ne_of_none hb hd)]; exact hb
    refine ⟨p, dx, x, t, rfl, ⟨ht, hb⟩, ix.mono ex1, upd_same, fun H' wl kp iw hi => ⟨rfl, k p dx wl (del H' p) H' ?_ ⟨ex_del _ _, del_same, iw, hi, Nat.zero_le _⟩⟩⟩
    intro b o hb
    have hb1 := e1 _ _ hb
    have nb := ne_of_none hb1 hp
    rw [del_ne nb]
    exact kp b o nb (ex1 _ _ hb1)
/-! ### defs that take words -/
def spP (K : PySem.W.Frag) {A β : Type} (pre : A → Prop) (args : A → List D) (run : A → Nat → List Wd → Except Nat (β × List Wd)) (res : A → β → D) : Sp := fun vs H Q E => ∃ (wa dx : Addr) (wl : V) (ws : List Wd) (n : Nat) (Hb : Hp) (k : Nat) (a : A) (xs : List V),
  vs = .ref wa :: xs ∧ WA K wa dx wl ws n Hb H k ∧ OkW ws ∧ IsL K Hb xs (args a) ∧ pre a ∧ (∀ p, run a n (ws.drop k) = .error p → RaiseK K "Fault" (faultF p) Hb E) ∧
  ∀ b r x H' k', run a n (ws.drop k) = .ok (b, r) → WA K wa dx wl ws n Hb H' k' → ws.drop k' = r → Is K H' x (res a b) → Q x H'
theorem spP_len {A β : Type} {pre : A → Prop} {args : A → List D} {run : A → Nat → List Wd → Except Nat (β × List Wd)} {res : A → β → D} {m : Nat} (h : ∀ a, (args a).length + 1 = m) : ∀ vs H Q E, spP K pre args run res vs H Q E → vs.length = m := fun vs H Q E ⟨wa, dx, wl, ws, n, Hb, k, a, xs, e, _, _, i, _⟩ => by
  rw [e, List.length_cons, i.length]
  exact h a
theorem p_call {σ : L2.St} {H : Hp} {A β : Type} {pre : A → Prop} {args : A → List D} {run : A → Nat → List Wd → Except Nat (β × List Wd)} {res : A → β → D} {wa dx : Addr} {wl : V} {ws : List Wd} {n : Nat} {Hb : Hp} {k : Nat} {i : Nat} {tr : TA} {E : XK} {Q : VK} (a : A)
    (W : WA K wa dx wl ws n Hb H k) (O : OkW ws) (ho : σ[i]? = some (some (.ref wa))) (ha : EvAD K tr σ H (args a)) (hn : ∀ d ∈ args a, NoC K (He.ga K cW) d) (hp : pre a) (hE : ∀ p, run a n (ws.drop k) = .error p → RaiseK K "Fault" (faultF p) Hb E)
    (hQ : ∀ b r x H' k', run a n (ws.drop k) = .ok (b, r) → WA K wa dx wl ws n Hb H' k' → ws.drop k' = r → Is K H' x (res a b) → Q x H') : tCall (spP K pre args run res) [] E (tCons (tVar i) tr) σ H Q := ⟨.ref wa, ho, ha H (Ex.refl H) _ fun xs H1 e1 ix => by
      have W1 := W.mono e1
      refine ⟨wa, dx, wl, ws, n, del H1 wa, k, a, xs, by rw [List.append_nil], W1.up, O, ix.del W1.i hn, hp, fun p e => (hE p e).mono W1.exd, fun b r x H' k' e W' hd ix' => hQ b r x H' k' e (W.down W1.exd W') hd ix'⟩⟩
/-- a reading of the words -/
theorem ev_ahead {σ : L2.St} {H : Hp} {wa dx : Addr} {wl : V} {ws : List Wd} {n : Nat} {Hb : Hp} {k i : Nat} {E : XK} (W : WA K wa dx wl ws n Hb H k) (ho : σ[i]? = some (some (.ref wa))) : Ev (tMeth (He.ga K cW) "ahead" (Words_ahead.sp K) [] E (tVar i) tNil) σ H (.str (bS (aheadL (ws.drop k)))) :=
  (ed_methF (K := K) (es := []) (ns := ["words", "length", "taken"]) (ws, n, k) (ed_var ho W.is) rfl ad_nil W.k rfl).ev
theorem ev_where {σ : L2.St} {H : Hp} {wa dx : Addr} {wl : V} {ws : List Wd} {n : Nat} {Hb : Hp} {k i : Nat} {E : XK} (W : WA K wa dx wl ws n Hb H k) (ho : σ[i]? = some (some (.ref wa))) : Ev (tMeth (He.ga K cW) "where" (Words_where.sp K) [] E (tVar i) tNil) σ H (.int (VbenCore.placeOf n (ws.drop k) : Nat)) :=
  (ed_methF (K := K) (es := []) (ns := ["words", "length", "taken"]) (ws, n, k) (ed_var ho W.is) rfl ad_nil W.k rfl).ev
theorem ev_ended {σ : L2.St} {H : Hp} {wa dx : Addr} {wl : V} {ws : List Wd} {n : Nat} {Hb : Hp} {k i : Nat} {E : XK} (W : WA K wa dx wl ws n Hb H k) (ho : σ[i]? = some (some (.ref wa))) : Ev (tMeth (He.ga K cW) "ended" (Words_ended.sp K) [] E (tVar i) tNil) σ H (.bl (decide (k = ws.length))) :=
  (ed_methF (K := K) (es := []) (ns := ["words", "length", "taken"]) (ws, n, k) (ed_var ho W.is) rfl ad_nil trivial rfl).ev
theorem s_move {σ : L2.St} {H : Hp} {D1 : Ends} {wa dx : Addr} {wl : V} {ws : List Wd} {n : Nat} {Hb : Hp} {k i : Nat} {E : XK} (W : WA K wa dx wl ws n Hb H k) (hk : k < ws.length) (ho : σ[i]? = some (some (.ref wa))) (q : ∀ H', WA K wa dx wl ws n Hb H' (k + 1) → D1.nx σ H') :
    tDrop (tMeth (He.ga K cW) "move_on" (Words_move_on.sp K) [] E (tVar i) tNil) D1 σ H := ⟨.ref wa, ho, wa, dx, _, rfl, W.i, rfl, ⟨wa, dx, wl, ws, n, Hb, k, rfl, W, hk, q⟩⟩
theorem q_move {σ : L2.St} {H : Hp} {D1 : Ends} {tz : TS} {wa dx : Addr} {wl : V} {ws : List Wd} {n : Nat} {Hb : Hp} {k i : Nat} {E : XK} (W : WA K wa dx wl ws n Hb H k) (hk : k < ws.length) (ho : σ[i]? = some (some (.ref wa))) (q : ∀ H', WA K wa dx wl ws n Hb H' (k + 1) → tz D1 σ H') :
    tSeq (tDrop (tMeth (He.ga K cW) "move_on" (Words_move_on.sp K) [] E (tVar i) tNil)) tz D1 σ H := s_move (D1 := { D1 with nx := tz D1 }) W hk ho q
theorem s_fault (T : Txt K mg) {σ : L2.St} {H : Hp} {wa dx : Addr} {wl : V} {ws : List Wd} {n : Nat} {Hb : Hp} {k i : Nat} {E E' : XK} (W : WA K wa dx wl ws n Hb H k) (ho : σ[i]? = some (some (.ref wa))) (q : RaiseK K "Fault" (faultF (VbenCore.placeOf n (ws.drop k))) Hb E) :
    tMkO (He.ga K "Fault") (Fault_init.sp K) [] (tCons (tMeth (He.ga K cW) "where" (Words_where.sp K) [] E' (tVar i) tNil) tNil) σ H (fun cls d H' => E cls d H') :=
  s_raise T.e_Fault.1.er (ea_cons (ev_where W ho) ea_nil) (by simp) (Fault_init.arg_nat _) (q.mono W.e)
namespace take_word
def run (b : List Nat) (e : Nat) (l : List Wd) : Except Nat (Unit × List Wd) := match VbenCore.must e b l with
  | .error p => .error p
  | .ok r => .ok ((), r)
theorem run_cons {b : List Nat} {e : Nat} {v : Wd} {r : List Wd} : run b e (v :: r) = if v.2 = b then .ok ((), r) else .error v.1 := by
  unfold run VbenCore.must
  dsimp only
  by_cases h : v.2 = b
  · rw [if_pos h, if_pos h]
  · rw [if_neg h, if_neg h]
def sp (K : PySem.W.Frag) : Sp := spP K (fun b : List Nat => b ≠ []) (fun b => [.v (.str (bS b))]) run fun _ _ => .v .non
theorem len : ∀ vs H Q E, sp K vs H Q E → vs.length = 2 := spP_len fun _ => rfl
abbrev sS : Stmt := s_take_word
abbrev nN : List PySem.Str := ["words", "signs"]
theorem sc : FnScope nN ["words", "signs"] (defScope sS) := ⟨rfl, rfl, rfl, by decide +kernel, rfl, by decide +kernel, by decide +kernel⟩
theorem ok (T : Txt K mg) : CalX P w K mg base 5 "take_word" (sp K) := by
  have d_Words_move_on := Words_move_on.ok (P := P) (w := w) (base := base) T
  have d_Words_ahead := Words_ahead.ok (P := P) (w := w) (base := base) T
  have i_Fault := Fault_init.ok (P := P) (w := w) (base := base) T
  have d_Words_where := Words_where.ok (P := P) (w := w) (base := base) T
  refine calx_of T.d_take_word.1 T.d_take_word.2 sc len (fun _ _ _ _ _ _ us hl => match us, hl with | [_, _], _ => rfl) fun cdv A outer s H vs Q E hr hs => ⟨_, (pss_cons (ps_if (pt_cmpR op_ne (pe_mt0 d_Words_ahead hr (by decide) (pv 0)) (pv 1) (nomark _)) (pss_one (ps_rai i_Fault rfl hr (by decide) (by rfl) (takes_of rfl rfl rfl rfl) (pa_cons (pe_mt0 d_Words_where hr (by decide) (pv 0)) pa_nil))) pss_nil) (pss_one (ps_expr (pe_mt0 d_Words_move_on hr (by decide) (pv 0))))), ?_⟩
  obtain ⟨wa, dx, wl, ws, n, Hb, k, b, xs, rfl, W, O, i, hb, hE, q⟩ := hs
  obtain ⟨x1, rfl, h1⟩ := i.a1
  cases h1.val
  refine q_when (b := decide (aheadL (ws.drop k) ≠ b)) (et_neS (ev_ahead W rfl) (ev_var rfl)) (fun z H1 e1 => ?_) fun z H1 e1 => ?_
  · have z := of_decide_eq_true z
    refine s_fault T (W.mono e1) rfl (hE _ ?_)
    cases h : ws.drop k with
    | nil => rfl
    | cons v r =>
      rw [h] at z
      rw [run_cons, if_neg (show ¬ v.2 = b from z)]
      rfl
  · have z := Decidable.not_not.mp (of_decide_eq_false z)
    have hk : k < ws.length := by
      rcases Nat.lt_or_ge k ws.length with h | h
      · exact h
      · have := (drop_end W.k).mpr (by have := W.k; omega)
        rw [this] at z
        exact absurd z.symm hb
    rw [drop_at hk] at z q
    refine s_move (W.mono e1) hk rfl fun H' W' => ?_
    refine q () (ws.drop (k + 1)) .non H' (k + 1) ?_ W' rfl (.v _)
    rw [run_cons, if_pos (show (ws[k]).2 = b from z)]
end take_word
/-- x in xs, of texts -/
theorem inV_str {w : List Nat} : ∀ had : List (List Nat), inV (.str (bS w)) (had.map fun h => V.str (bS h)) = had.contains w
  | [] => rfl
  | h :: r => by
    show (eqV (.str (bS h)) (.str (bS w)) || inV (.str (bS w)) (r.map fun h => V.str (bS h))) = _
    rw [inV_str r, List.contains_cons]
    congr 1
    by_cases q : w = h
    · subst q
      simp [eqV]
    · have : ¬ (bS h = bS w) := fun z => q (bS_inj z).symm
      rw [beq_eq_false_iff_ne.mpr q]
      simp [eqV, this]
theorem et_inS {σ : L2.St} {H : Hp} {ta tb : TE} {w : List Nat} {had : List (List Nat)} (h1 : Ev ta σ H (.str (bS w))) (h2 : EvD K tb σ H (.lst (had.map fun h => D.v (.str (bS h))))) : EvT (tTest (tOp (rIn K false) ta tb)) σ H (had.contains w) := fun H1 e Q q =>
  h1 H1 e _ fun H2 e2 => h2 H2 (e.trans e2) _ fun y H3 e3 iy => by
    have em : (had.map fun h => D.v (.str (bS h))) = (had.map fun h => V.str (bS h)).map D.v := by rw [List.map_map]; rfl
    rw [em] at iy
    obtain ⟨a, rfl, ha⟩ := iy.vals_inv
    refine rv_isL (sq_of ha) rfl ?_ H3 (Ex.refl H3) _ fun H4 e4 => ⟨_, rfl, ?_⟩
    · rw [List.all_map, List.all_eq_true]
      intro z _
      rfl
    · rw [inV_str]
      exact q H4 ((e2.trans e3).trans e4)
namespace take_name
def sp (K : PySem.W.Frag) : Sp := spP K (fun _ : List (List Nat) => True) (fun had => [.lst (had.map fun h => .v (.str (bS h)))]) (fun had e l => Vbenaj.nameIn e had l) fun _ w => .v (.str (bS w))
theorem len : ∀ vs H Q E, sp K vs H Q E → vs.length = 2 := spP_len fun _ => rfl
theorem run_cons {had : List (List Nat)} {e : Nat} {v : Wd} {r : List Wd} : Vbenaj.nameIn e had (v :: r) = if VbenCore.isName v.2 = true ∧ had.contains v.2 = false then .ok (v.2, r) else .error v.1 := rfl
abbrev sS : Stmt := s_take_name
abbrev nN : List PySem.Str := ["words", "taken", "name"]
theorem sc : FnScope nN ["words", "taken"] (defScope sS) := ⟨rfl, rfl, rfl, by decide +kernel, rfl, by decide +kernel, by decide +kernel⟩
theorem ok (T : Txt K mg) : CalX P w K mg base 5 "take_name" (sp K) := by
  have d_Words_move_on := Words_move_on.ok (P := P) (w := w) (base := base) T
  have d_is_name := is_name.ok (P := P) (w := w) (base := base) T
  have i_Fault := Fault_init.ok (P := P) (w := w) (base := base) T
  have d_Words_where := Words_where.ok (P := P) (w := w) (base := base) T
  have d_Words_ahead := Words_ahead.ok (P := P) (w := w) (base := base) T
  refine calx_of T.d_take_name.1 T.d_take_name.2 sc len (fun _ _ _ _ _ _ us hl => match us, hl with | [_, _], _ => rfl) fun cdv A outer s H vs Q E hr hs => ⟨_, (pss_cons (ps_set (i := 2) sc.nd rfl (Or.inl rfl) (pe_mt0 d_Words_ahead hr (by decide) (pv 0))) (pss_cons (ps_if (PW.pt (pw_or (pt_not (pt_val (pe_c d_is_name hr (by decide) rfl (pa_cons (pv 2) pa_nil)))) (pw_or1 (pt_cmpR op_in_seq (pv 2) (pv 1) rfl)))) (pss_one (ps_rai i_Fault rfl hr (by decide) (by rfl) (takes_of rfl rfl rfl rfl) (pa_cons (pe_mt0 d_Words_where hr (by decide) (pv 0)) pa_nil))) pss_nil) (pss_cons (ps_expr (pe_mt0 d_Words_move_on hr (by decide) (pv 0))) (pss_one (ps_ret (pv 2)))))), ?_⟩
  obtain ⟨wa, dx, wl, ws, n, Hb, k, had, xs, rfl, W, O, i, _, hE, q⟩ := hs
  obtain ⟨x1, rfl, h1⟩ := i.a1
  have Wk := W.k
  have ok : (aheadL (ws.drop k)).length ≤ 2000 ∧ ∀ b ∈ aheadL (ws.drop k), okc b = true := by
    cases h : ws.drop k with
    | nil => exact ⟨by simp [aheadL], fun b hb => by cases hb⟩
    | cons v r =>
      have hm : v ∈ ws := List.mem_of_mem_drop (h ▸ List.mem_cons_self)
      exact ⟨O.l v hm, O.o v hm⟩
  refine q_asg (ev_ahead W rfl) fun H1 e1 => ?_
  refine q_when (b := !VbenCore.isName (aheadL (ws.drop k)) || had.contains (aheadL (ws.drop k))) (et_or (et_not (et_test (ev_callF (aheadL (ws.drop k)) (ad1 (ed_v (ev_var rfl))) ok rfl))) fun _ => et_inS (ev_var rfl) (ed_var rfl (h1.mono (W.e.trans e1)))) (fun z H2 e2 => ?_) fun z H2 e2 => ?_
  · refine s_fault T (W.mono (e1.trans e2)) rfl (hE _ ?_)
    cases h : ws.drop k with
    | nil => rfl
    | cons v r =>
      rw [h] at z
      refine run_cons.trans (if_neg ?_)
      · intro y
        have y1 : VbenCore.isName (aheadL (v :: r)) = true := y.1
        have y2 : had.contains (aheadL (v :: r)) = false := y.2
        rw [y1, y2] at z
        cases z
  · have z1 : VbenCore.isName (aheadL (ws.drop k)) = true := by
      cases h : VbenCore.isName (aheadL (ws.drop k)) with
      | true => rfl
      | false => rw [h] at z; cases z
    have z2 : had.contains (aheadL (ws.drop k)) = false := by
      cases h : had.contains (aheadL (ws.drop k)) with
      | false => rfl
      | true => rw [h, Bool.or_true] at z; cases z
    have hk : k < ws.length := by
      rcases Nat.lt_or_ge k ws.length with h | h
      · exact h
      · rw [(drop_end W.k).mpr (by omega)] at z1
        cases z1
    refine q_move (W.mono (e1.trans e2)) hk rfl fun H3 W3 => ?_
    refine s_ret (ev_var rfl) fun H4 e4 => ?_
    rw [drop_at hk] at z1 z2 q ⊢
    refine q (ws[k]).2 (ws.drop (k + 1)) _ H4 (k + 1) ?_ (W3.mono e4) rfl (.v _)
    exact run_cons.trans (if_pos ⟨z1, z2⟩)
end take_name
namespace take_number
def sp (K : PySem.W.Frag) : Sp := spP K (fun hi : Nat => hi = 60 ∨ hi = 1000 ∨ hi = 1000000) (fun hi => [.i hi]) (fun hi e l => Vbenaj.numIn e 0 hi l) fun _ n => .i n
theorem len : ∀ vs H Q E, sp K vs H Q E → vs.length = 2 := spP_len fun _ => rfl
theorem run_cons {hi : Nat} {e : Nat} {v : Wd} {r : List Wd} : Vbenaj.numIn e 0 hi (v :: r) = if numOk v.2 hi = true then .ok (digV v.2, r) else .error v.1 := by
  unfold Vbenaj.numIn numOk
  dsimp only
  cases h : VbenCore.natOf v.2 with
  | none => rfl
  | some n =>
    dsimp only
    rw [(natOf_num (hi := hi) h).1]
    by_cases q : digV v.2 ≤ hi
    · rw [if_pos ⟨Nat.zero_le _, q⟩, if_pos (decide_eq_true q)]
    · rw [if_neg (fun z => q z.2), if_neg (by rw [decide_eq_false q]; decide)]
abbrev sS : Stmt := s_take_number
abbrev nN : List PySem.Str := ["words", "greatest", "digits"]
theorem sc : FnScope nN ["words", "greatest"] (defScope sS) := ⟨rfl, rfl, rfl, by decide +kernel, rfl, by decide +kernel, by decide +kernel⟩
theorem ok (T : Txt K mg) : CalX P w K mg base 5 "take_number" (sp K) := by
  have d_Words_move_on := Words_move_on.ok (P := P) (w := w) (base := base) T
  have d_is_number := is_number.ok (P := P) (w := w) (base := base) T
  have i_Fault := Fault_init.ok (P := P) (w := w) (base := base) T
  have d_Words_where := Words_where.ok (P := P) (w := w) (base := base) T
  have d_Words_ahead := Words_ahead.ok (P := P) (w := w) (base := base) T
  refine calx_of T.d_take_number.1 T.d_take_number.2 sc len (fun _ _ _ _ _ _ us hl => match us, hl with | [_, _], _ => rfl) fun cdv A outer s H vs Q E hr hs => ⟨_, (pss_cons (ps_set (i := 2) sc.nd rfl (Or.inl rfl) (pe_mt0 d_Words_ahead hr (by decide) (pv 0))) (pss_cons (ps_if (pt_not (pt_val (pe_c d_is_number hr (by decide) rfl (pa_cons (pv 2) (pa_cons (pv 1) pa_nil))))) (pss_one (ps_rai i_Fault rfl hr (by decide) (by rfl) (takes_of rfl rfl rfl rfl) (pa_cons (pe_mt0 d_Words_where hr (by decide) (pv 0)) pa_nil))) pss_nil) (pss_cons (ps_expr (pe_mt0 d_Words_move_on hr (by decide) (pv 0))) (pss_one (ps_ret (pe_callTy call_int_str (by rfl) T.f_int (by decide +kernel) (pa_cons (pv 2) pa_nil))))))), ?_⟩
  obtain ⟨wa, dx, wl, ws, n, Hb, k, hi, xs, rfl, W, O, i, hp, hE, q⟩ := hs
  obtain ⟨x1, rfl, h1⟩ := i.a1
  cases h1.val
  have Wk := W.k
  have ok : (aheadL (ws.drop k)).length ≤ 2000 ∧ ∀ b ∈ aheadL (ws.drop k), okc b = true := by
    cases h : ws.drop k with
    | nil => exact ⟨by simp [aheadL], fun b hb => by cases hb⟩
    | cons v r =>
      have hm : v ∈ ws := List.mem_of_mem_drop (h ▸ List.mem_cons_self)
      exact ⟨O.l v hm, O.o v hm⟩
  refine q_asg (ev_ahead W rfl) fun H1 e1 => ?_
  refine q_when (b := !numOk (aheadL (ws.drop k)) hi) (et_not (et_test (ev_callF (aheadL (ws.drop k), hi) (ad2 (ed_v (ev_var rfl)) (ed_v (ev_var rfl))) ⟨ok.1, ok.2, hp⟩ rfl))) (fun z H2 e2 => ?_) fun z H2 e2 => ?_
  · refine s_fault T (W.mono (e1.trans e2)) rfl (hE _ ?_)
    cases h : ws.drop k with
    | nil => rfl
    | cons v r =>
      rw [h] at z
      refine run_cons.trans (if_neg ?_)
      · intro y
        have y1 : numOk (aheadL (v :: r)) hi = true := y
        rw [y1] at z
        cases z
  · have z1 : numOk (aheadL (ws.drop k)) hi = true := by
      cases h : numOk (aheadL (ws.drop k)) hi with
      | true => rfl
      | false => rw [h] at z; cases z
    have hk : k < ws.length := by
      rcases Nat.lt_or_ge k ws.length with h | h
      · exact h
      · rw [(drop_end W.k).mpr (by omega)] at z1
        cases z1
    refine q_move (W.mono (e1.trans e2)) hk rfl fun H3 W3 => ?_
    rw [drop_at hk] at z1 q ⊢
    have z3 : numOk (ws[k]).2 hi = true := z1
    have nf : ∃ m, VbenCore.natOf (ws[k]).2 = some m := by
      unfold numOk at z3
      cases h : VbenCore.natOf (ws[k]).2 with
      | none => rw [h] at z3; cases z3
      | some m => exact ⟨m, rfl⟩
    obtain ⟨m, hm⟩ := nf
    obtain ⟨n1, n2, n3, n4⟩ := natOf_num (hi := hi) hm
    refine s_ret (ev_intS (w := (ws[k]).2) (ev_var rfl) ?_ n2 (by omega)) fun H4 e4 => ?_
    · rw [List.all_eq_true]
      intro c hc
      have := n3 c hc
      unfold VbenCore.isDigit
      simp only [Bool.and_eq_true, decide_eq_true_eq]
      exact this
    · refine q (digV (ws[k]).2) (ws.drop (k + 1)) _ H4 (k + 1) ?_ (W3.mono e4) rfl (.v _)
      exact run_cons.trans (if_pos z3)
end take_number
theorem q_callP {σ : L2.St} {H : Hp} {D1 : Ends} {tz : TS} {A β : Type} {pre : A → Prop} {args : A → List D} {run : A → Nat → List Wd → Except Nat (β × List Wd)} {res : A → β → D} {wa dx : Addr} {wl : V} {ws : List Wd} {n : Nat} {Hb : Hp} {k : Nat} {i j : Nat} {tr : TA} {E : XK} (a : A)
    (W : WA K wa dx wl ws n Hb H k) (O : OkW ws) (ho : σ[i]? = some (some (.ref wa))) (ha : EvAD K tr σ H (args a)) (hn : ∀ d ∈ args a, NoC K (He.ga K cW) d) (hp : pre a) (hE : ∀ p, run a n (ws.drop k) = .error p → RaiseK K "Fault" (faultF p) Hb E)
    (hQ : ∀ b r x H' k', run a n (ws.drop k) = .ok (b, r) → WA K wa dx wl ws n Hb H' k' → ws.drop k' = r → Is K H' x (res a b) → tz D1 (σ.set j (some x)) H') : tSeq (tAsg (tCall (spP K pre args run res) [] E (tCons (tVar i) tr)) (gName j)) tz D1 σ H := p_call a W O ho ha hn hp hE hQ
theorem s_callP {σ : L2.St} {H : Hp} {D1 : Ends} {A β : Type} {pre : A → Prop} {args : A → List D} {run : A → Nat → List Wd → Except Nat (β × List Wd)} {res : A → β → D} {wa dx : Addr} {wl : V} {ws : List Wd} {n : Nat} {Hb : Hp} {k : Nat} {i j : Nat} {tr : TA} {E : XK} (a : A)
    (W : WA K wa dx wl ws n Hb H k) (O : OkW ws) (ho : σ[i]? = some (some (.ref wa))) (ha : EvAD K tr σ H (args a)) (hn : ∀ d ∈ args a, NoC K (He.ga K cW) d) (hp : pre a) (hE : ∀ p, run a n (ws.drop k) = .error p → RaiseK K "Fault" (faultF p) Hb E)
    (hQ : ∀ b r x H' k', run a n (ws.drop k) = .ok (b, r) → WA K wa dx wl ws n Hb H' k' → ws.drop k' = r → Is K H' x (res a b) → D1.nx (σ.set j (some x)) H') : tAsg (tCall (spP K pre args run res) [] E (tCons (tVar i) tr)) (gName j) D1 σ H := p_call a W O ho ha hn hp hE hQ
/-- take_word(words, b) -/
theorem q_word {σ : L2.St} {H : Hp} {D1 : Ends} {tz : TS} {wa dx : Addr} {wl : V} {ws : List Wd} {n : Nat} {Hb : Hp} {k : Nat} {i : Nat} {t1 : TE} {E : XK} {b : List Nat}
    (W : WA K wa dx wl ws n Hb H k) (O : OkW ws) (ho : σ[i]? = some (some (.ref wa))) (hv : Ev t1 σ H (.str (bS b))) (hb : b ≠ []) (hE : ∀ p, VbenCore.must n b (ws.drop k) = .error p → RaiseK K "Fault" (faultF p) Hb E)
    (hQ : ∀ r H' k', VbenCore.must n b (ws.drop k) = .ok r → WA K wa dx wl ws n Hb H' k' → ws.drop k' = r → tz D1 σ H') : tSeq (tDrop (tCall (take_word.sp K) [] E (tCons (tVar i) (tCons t1 tNil)))) tz D1 σ H :=
  p_call (Q := fun _ H' => tz D1 σ H') b W O ho (ad1 (ed_v hv)) (fun d hd => by rw [List.mem_singleton.mp hd]; exact .v _) hb (fun p e => hE p (by
    unfold take_word.run at e
    cases h : VbenCore.must n b (ws.drop k) with
    | error p' => rw [h] at e; injection e with e; rw [e]
    | ok r => rw [h] at e; cases e)) fun _ r x H' k' e W' hd _ => hQ r H' k' (by
    unfold take_word.run at e
    cases h : VbenCore.must n b (ws.drop k) with
    | error p' => rw [h] at e; cases e
    | ok r => rw [h] at e; cases e; rfl) W' hd
/-- x = take_number(words, hi) -/
theorem q_num {σ : L2.St} {H : Hp} {D1 : Ends} {tz : TS} {wa dx : Addr} {wl : V} {ws : List Wd} {n : Nat} {Hb : Hp} {k : Nat} {i j : Nat} {t1 : TE} {E : XK} {hi : Nat}
    (W : WA K wa dx wl ws n Hb H k) (O : OkW ws) (ho : σ[i]? = some (some (.ref wa))) (hv : Ev t1 σ H (.int (hi : Nat))) (hb : hi = 60 ∨ hi = 1000 ∨ hi = 1000000) (hE : ∀ p, Vbenaj.numIn n 0 hi (ws.drop k) = .error p → RaiseK K "Fault" (faultF p) Hb E)
    (hQ : ∀ m r H' k', Vbenaj.numIn n 0 hi (ws.drop k) = .ok (m, r) → WA K wa dx wl ws n Hb H' k' → ws.drop k' = r → tz D1 (σ.set j (some (.int (m : Nat)))) H') : tSeq (tAsg (tCall (take_number.sp K) [] E (tCons (tVar i) (tCons t1 tNil))) (gName j)) tz D1 σ H :=
  q_callP hi W O ho (ad1 (ed_v hv)) (fun d hd => by rw [List.mem_singleton.mp hd]; exact .v _) hb hE fun m r x H' k' e W' hd ix => by
    cases ix.val
    exact hQ m r H' k' e W' hd
theorem q_name {σ : L2.St} {H : Hp} {D1 : Ends} {tz : TS} {wa dx : Addr} {wl : V} {ws : List Wd} {n : Nat} {Hb : Hp} {k : Nat} {i j : Nat} {t1 : TE} {E : XK} {had : List (List Nat)}
    (W : WA K wa dx wl ws n Hb H k) (O : OkW ws) (ho : σ[i]? = some (some (.ref wa))) (hv : EvL t1 σ H (had.map fun h => V.str (bS h))) (hE : ∀ p, Vbenaj.nameIn n had (ws.drop k) = .error p → RaiseK K "Fault" (faultF p) Hb E)
    (hQ : ∀ m r H' k', Vbenaj.nameIn n had (ws.drop k) = .ok (m, r) → WA K wa dx wl ws n Hb H' k' → ws.drop k' = r → tz D1 (σ.set j (some (.str (bS m)))) H') : tSeq (tAsg (tCall (take_name.sp K) [] E (tCons (tVar i) (tCons t1 tNil))) (gName j)) tz D1 σ H :=
  q_callP had W O ho (ad1 ((ed_vals hv).eq (by rw [List.map_map]; rfl))) (fun d hd => by
    rw [List.mem_singleton.mp hd]
    exact noW_map (fun _ => .v _) had) trivial hE fun m r x H' k' e W' hd ix => by
    cases ix.val
    exact hQ m r H' k' e W' hd
namespace take_field
def sp (K : PySem.W.Frag) : Sp := spP K (fun fs : List NX => fs.length ≤ 1000) (fun fs => [.lst (fs.map fieldD)]) (fun fs e l => fieldIn e (fs.map fun x => x.name) l) fun _ x => fieldD x
theorem len : ∀ vs H Q E, sp K vs H Q E → vs.length = 2 := spP_len fun _ => rfl
abbrev sS : Stmt := s_take_field
abbrev nN : List PySem.Str := ["words", "fields", "name", "asked", "field"]
theorem sc : FnScope nN ["words", "fields"] (defScope sS) := ⟨rfl, rfl, rfl, by decide +kernel, rfl, by decide +kernel, by decide +kernel⟩
theorem ok (T : Txt K mg) : CalX P w K mg base 6 "take_field" (sp K) := by
  have m_Field := Field_init.ok (P := P) (w := w) (base := base) T
  have d_take_number := take_number.ok (P := P) (w := w) (base := base) T
  have d_take_word := take_word.ok (P := P) (w := w) (base := base) T
  have d_take_name := take_name.ok (P := P) (w := w) (base := base) T
  refine calx_of T.d_take_field.1 T.d_take_field.2 sc len (fun _ _ _ _ _ _ us hl => match us, hl with | [_, _], _ => rfl) fun cdv A outer s H vs Q E hr hs => ⟨_, (pss_cons (ps_set (i := 2) sc.nd rfl (Or.inl rfl) (pe_cX d_take_name hr (by decide) rfl (takes_of rfl rfl rfl rfl) (pa_cons (pv 0) (pa_cons (pe_lc (own := [("field", 4)]) (g := (gName 4)) (tt := tYes) rfl sc.nd (pi_list (pv 1)) (blkOk_by (own := [("field", 4)]) (N := nN) (sc := defScope sS) (by decide +kernel)) (fun _ _ _ _ _ => pg_name (i := 4) sc.nd rfl (Or.inl rfl)) (fun _ _ _ _ _ => pts_nil) (fun _ _ _ _ _ => (pe_fldK (K := K) rfl (pv 4) rfl))) pa_nil)))) (pss_cons (ps_expr (pe_cX d_take_word hr (by decide) rfl (takes_of rfl rfl rfl rfl) (pa_cons (pv 0) (pa_cons pe_str pa_nil)))) (pss_cons (ps_set (i := 3) sc.nd rfl (Or.inl rfl) (pe_cX d_take_number hr (by decide) rfl (takes_of rfl rfl rfl rfl) (pa_cons (pv 0) (pa_cons (pe_gc rfl T.c_MOST_ASKED) pa_nil)))) (pss_one (ps_ret (pe_mk m_Field hr (by decide) rfl (pa_cons (pv 2) (pa_cons (pv 3) (pa_cons (pe_lst pa_nil) pa_nil))))))))), ?_⟩
  obtain ⟨wa, dx, wl, ws, n, Hb, k, fs, xs, rfl, W, O, i, hp, hE, q⟩ := hs
  obtain ⟨x1, rfl, h1⟩ := i.a1
  dsimp only at hE q
  unfold fieldIn at hE q
  refine q_name (had := fs.map fun x => x.name) W O rfl ?_ (fun p e => hE p (by rw [e])) fun m r H1 k1 e1 W1 hd1 => ?_
  · rw [List.map_map]
    exact el_lcM (l := fs) (fD := fieldD) (u := fun x => V.str (bS x.name)) (ed_var rfl (h1.mono W.e)) (by omega) (fun _ => rfl) fun i a x H1 e1 ha ia => ed_field_name T (ed_var rfl ia)
  subst hd1
  rw [e1] at hE q
  dsimp only at hE q
  refine q_word (b := Vbenaj.W "asked") W1 O rfl (ev_is ev_c (by decide +kernel)) (by decide +kernel) (fun p e => hE p (by rw [e])) fun r H2 k2 e2 W2 hd2 => ?_
  subst hd2
  rw [e2] at hE q
  dsimp only at hE q
  refine q_num (hi := 1000) W2 O rfl (ev_is ev_c rfl) (by omega) (fun p e => hE p (by rw [show Vbenaj.ASKED = 1000 from rfl, e])) fun a r H3 k3 e3 W3 hd3 => ?_
  subst hd3
  rw [show Vbenaj.ASKED = 1000 from rfl, e3] at hE q
  dsimp only at hE q
  refine s_retD (d := fieldD { name := m, asked := a, codes := [] }) (EvD.eq (ed_make (c := "Field") (ns := ["name", "asked", "codes"]) (ad3 (ed_v (ev_var rfl)) (ed_v (ev_var rfl)) (ed_lst ad_nil (by simp))) rfl) rfl) fun x H4 e4 ix => ?_
  exact q _ _ x H4 k3 rfl (W3.mono e4) rfl ix
end take_field
namespace take_code
def sp (K : PySem.W.Frag) : Sp := spP K (fun fs : List NC => fs.length ≤ 1000) (fun fs => [.lst (fs.map codeD)]) (fun fs e l => codeIn e (fs.map fun x => x.name) l) fun _ x => codeD x
theorem len : ∀ vs H Q E, sp K vs H Q E → vs.length = 2 := spP_len fun _ => rfl
abbrev sS : Stmt := s_take_code
abbrev nN : List PySem.Str := ["words", "codes", "name", "holes", "cost", "code"]
theorem sc : FnScope nN ["words", "codes"] (defScope sS) := ⟨rfl, rfl, rfl, by decide +kernel, rfl, by decide +kernel, by decide +kernel⟩
theorem ok (T : Txt K mg) : CalX P w K mg base 6 "take_code" (sp K) := by
  have m_Code := Code_init.ok (P := P) (w := w) (base := base) T
  have d_take_number := take_number.ok (P := P) (w := w) (base := base) T
  have d_take_word := take_word.ok (P := P) (w := w) (base := base) T
  have d_take_name := take_name.ok (P := P) (w := w) (base := base) T
  refine calx_of T.d_take_code.1 T.d_take_code.2 sc len (fun _ _ _ _ _ _ us hl => match us, hl with | [_, _], _ => rfl) fun cdv A outer s H vs Q E hr hs => ⟨_, (pss_cons (ps_set (i := 2) sc.nd rfl (Or.inl rfl) (pe_cX d_take_name hr (by decide) rfl (takes_of rfl rfl rfl rfl) (pa_cons (pv 0) (pa_cons (pe_lc (own := [("code", 5)]) (g := (gName 5)) (tt := tYes) rfl sc.nd (pi_list (pv 1)) (blkOk_by (own := [("code", 5)]) (N := nN) (sc := defScope sS) (by decide +kernel)) (fun _ _ _ _ _ => pg_name (i := 5) sc.nd rfl (Or.inl rfl)) (fun _ _ _ _ _ => pts_nil) (fun _ _ _ _ _ => (pe_fldK (K := K) rfl (pv 5) rfl))) pa_nil)))) (pss_cons (ps_expr (pe_cX d_take_word hr (by decide) rfl (takes_of rfl rfl rfl rfl) (pa_cons (pv 0) (pa_cons pe_str pa_nil)))) (pss_cons (ps_set (i := 3) sc.nd rfl (Or.inl rfl) (pe_cX d_take_number hr (by decide) rfl (takes_of rfl rfl rfl rfl) (pa_cons (pv 0) (pa_cons (pe_gc rfl T.c_MOST_HOLES) pa_nil)))) (pss_cons (ps_expr (pe_cX d_take_word hr (by decide) rfl (takes_of rfl rfl rfl rfl) (pa_cons (pv 0) (pa_cons pe_str pa_nil)))) (pss_cons (ps_set (i := 4) sc.nd rfl (Or.inl rfl) (pe_cX d_take_number hr (by decide) rfl (takes_of rfl rfl rfl rfl) (pa_cons (pv 0) (pa_cons (pe_gc rfl T.c_MOST_COST) pa_nil)))) (pss_one (ps_ret (pe_mk m_Code hr (by decide) rfl (pa_cons (pv 2) (pa_cons (pv 3) (pa_cons (pv 4) pa_nil))))))))))), ?_⟩
  obtain ⟨wa, dx, wl, ws, n, Hb, k, fs, xs, rfl, W, O, i, hp, hE, q⟩ := hs
  obtain ⟨x1, rfl, h1⟩ := i.a1
  dsimp only at hE q
  unfold codeIn at hE q
  refine q_name (had := fs.map fun x => x.name) W O rfl ?_ (fun p e => hE p (by rw [e])) fun m r H1 k1 e1 W1 hd1 => ?_
  · rw [List.map_map]
    exact el_lcM (l := fs) (fD := codeD) (u := fun x => V.str (bS x.name)) (ed_var rfl (h1.mono W.e)) (by omega) (fun _ => rfl) fun i a x H1 e1 ha ia => ed_code_name T (ed_var rfl ia)
  subst hd1
  rw [e1] at hE q
  dsimp only at hE q
  refine q_word (b := Vbenaj.W "holes") W1 O rfl (ev_is ev_c (by decide +kernel)) (by decide +kernel) (fun p e => hE p (by rw [e])) fun r H2 k2 e2 W2 hd2 => ?_
  subst hd2
  rw [e2] at hE q
  dsimp only at hE q
  refine q_num (hi := 60) W2 O rfl (ev_is ev_c rfl) (by omega) (fun p e => hE p (by rw [show Vbenaj.HOLES = 60 from rfl, e])) fun a r H3 k3 e3 W3 hd3 => ?_
  subst hd3
  rw [show Vbenaj.HOLES = 60 from rfl, e3] at hE q
  dsimp only at hE q
  refine q_word (b := Vbenaj.W "cost") W3 O rfl (ev_is ev_c (by decide +kernel)) (by decide +kernel) (fun p e => hE p (by rw [e])) fun r H4 k4 e4 W4 hd4 => ?_
  subst hd4
  rw [e4] at hE q
  dsimp only at hE q
  refine q_num (hi := 1000000) W4 O rfl (ev_is ev_c rfl) (by omega) (fun p e => hE p (by rw [show Vbenaj.COST = 1000000 from rfl, e])) fun c r H5 k5 e5 W5 hd5 => ?_
  subst hd5
  rw [show Vbenaj.COST = 1000000 from rfl, e5] at hE q
  dsimp only at hE q
  refine s_retD (d := codeD { name := m, holes := a, cost := c }) (EvD.eq (ed_make (c := "Code") (ns := ["name", "holes", "cost"]) (ad3 (ed_v (ev_var rfl)) (ed_v (ev_var rfl)) (ed_v (ev_var rfl))) rfl) rfl) fun x H6 e6 ix => ?_
  exact q _ _ x H6 k5 rfl (W5.mono e6) rfl ix
end take_code
end
end Nt

set_option maxHeartbeats 4000000
namespace Nt
open PySem PySem.Spec PyProof.Rows L2 Evl
open C8 (Cal Mak Met pe_c pe_mk pe_mt pe_mt0 pe_gc)
section
variable {P : Program} {w : World} {K : PySem.W.Frag} {mg : PySem.Str → Option Value} {base : Heap}
/-- x = take_..(words, ..) as an argument -/
theorem lineP_cons {fs : List NX} {e : Nat} {v : Wd} {r : List Wd} : lineP fs e (v :: r) = (if v.2 = Vbenaj.W "field" ∧ fs.length < 10 then (match fieldIn e (fs.map fun x => x.name) r with
      | .error p => .error p
      | .ok (x, l) => .ok (fs ++ [x], l))
    else if v.2 = Vbenaj.W "code" ∧ 0 < fs.length ∧ (Vbenaj.lastCodes { holes := 0, fields := fs }).length < 8 then (match codeIn e ((Vbenaj.lastCodes { holes := 0, fields := fs }).map fun c => c.name) r with
      | .error p => .error p
      | .ok (c, l) => .ok ((Vbenaj.putLine { holes := 0, fields := fs } (.code c)).fields, l))
    else .error v.1) := rfl
namespace take_line
def sp (K : PySem.W.Frag) : Sp := spP K (fun fs : List NX => OkFs fs) (fun fs => [.lst (fs.map fieldD)]) (fun fs e l => lineP fs e l) fun _ fs => .lst (fs.map fieldD)
theorem len : ∀ vs H Q E, sp K vs H Q E → vs.length = 2 := spP_len fun _ => rfl
theorem snoc_of {fs : List NX} (h : 0 < fs.length) : ∃ a x, fs = a ++ [x] := by
  have hne : fs ≠ [] := fun z => by rw [z] at h; cases h
  exact ⟨_, _, (List.dropLast_concat_getLast hne).symm⟩
abbrev sS : Stmt := s_take_line
abbrev nN : List PySem.Str := ["words", "fields", "start"]
theorem sc : FnScope nN ["words", "fields"] (defScope sS) := ⟨rfl, rfl, rfl, by decide +kernel, rfl, by decide +kernel, by decide +kernel⟩
theorem ok (T : Txt K mg) : CalX P w K mg base 7 "take_line" (sp K) := by
  have i_Fault := Fault_init.ok (P := P) (w := w) (base := base) T
  have d_Words_where := Words_where.ok (P := P) (w := w) (base := base) T
  have d_with_code := with_code.ok (P := P) (w := w) (base := base) T
  have d_take_code := take_code.ok (P := P) (w := w) (base := base) T
  have d_Words_move_on := Words_move_on.ok (P := P) (w := w) (base := base) T
  have d_with_field := with_field.ok (P := P) (w := w) (base := base) T
  have d_take_field := take_field.ok (P := P) (w := w) (base := base) T
  have d_Words_ahead := Words_ahead.ok (P := P) (w := w) (base := base) T
  refine calx_of T.d_take_line.1 T.d_take_line.2 sc len (fun _ _ _ _ _ _ us hl => match us, hl with | [_, _], _ => rfl) fun cdv A outer s H vs Q E hr hs => ⟨_, (pss_cons (ps_set (i := 2) sc.nd rfl (Or.inl rfl) (pe_mt0 d_Words_ahead hr (by decide) (pv 0))) (pss_cons (ps_if (PW.pt (pw_and (pt_cmpR op_eq (pv 2) pe_str (nomark _)) (pw_and1 (pt_cmpR op_lt (pe_callB call_len_seq (by rfl) T.f_len PySem.boot_len (pa_cons (pv 1) pa_nil)) (pe_gc rfl T.c_MOST_FIELDS) (nomark _))))) (pss_cons (ps_expr (pe_mt0 d_Words_move_on hr (by decide) (pv 0))) (pss_one (ps_ret (pe_c d_with_field hr (by decide) rfl (pa_cons (pv 1) (pa_cons (pe_cX d_take_field hr (by decide) rfl (takes_of rfl rfl rfl rfl) (pa_cons (pv 0) (pa_cons (pv 1) pa_nil))) pa_nil)))))) pss_nil) (pss_cons (ps_if (PW.pt (pw_and (pt_cmpR op_eq (pv 2) pe_str (nomark _)) (pw_and (pt_cmpR op_gt (pe_callB call_len_seq (by rfl) T.f_len PySem.boot_len (pa_cons (pv 1) pa_nil)) pe_int (nomark _)) (pw_and1 (pt_cmpR op_lt (pe_callB call_len_seq (by rfl) T.f_len PySem.boot_len (pa_cons (pe_fld (pe_ix ix_list (pv 1) (pe_un un_neg pe_int) (fun _ _ => rfl)) rfl) pa_nil)) (pe_gc rfl T.c_MOST_CODES) (nomark _)))))) (pss_cons (ps_expr (pe_mt0 d_Words_move_on hr (by decide) (pv 0))) (pss_one (ps_ret (pe_c d_with_code hr (by decide) rfl (pa_cons (pv 1) (pa_cons (pe_cX d_take_code hr (by decide) rfl (takes_of rfl rfl rfl rfl) (pa_cons (pv 0) (pa_cons (pe_fld (pe_ix ix_list (pv 1) (pe_un un_neg pe_int) (fun _ _ => rfl)) rfl) pa_nil))) pa_nil)))))) pss_nil) (pss_one (ps_rai i_Fault rfl hr (by decide) (by rfl) (takes_of rfl rfl rfl rfl) (pa_cons (pe_mt0 d_Words_where hr (by decide) (pv 0)) pa_nil)))))), ?_⟩
  obtain ⟨wa, dx, wl, ws, n, Hb, k, fs, xs, rfl, W, O, i, hp, hE, q⟩ := hs
  obtain ⟨x1, rfl, h1⟩ := i.a1
  dsimp only at hE q
  have Wk := W.k
  have hn := hp.n
  refine q_asg (ev_ahead W rfl) fun H1 e1 => ?_
  have W1 := W.mono e1
  refine q_when (b := decide (aheadL (ws.drop k) = Vbenaj.W "field" ∧ fs.length < 10)) (et_is (et_and (a := decide (aheadL (ws.drop k) = Vbenaj.W "field")) (b := decide (fs.length < 10)) (et_eqS (ev_var rfl) (ev_is ev_c (by decide +kernel))) fun _ => et_is (et_lt (ev_lenD (ed_var rfl (h1.mono W1.e))) ev_c) (by rw [List.length_map]; simp; omega)) (by simp)) (fun z H2 e2 => ?_) fun z H2 e2 => ?_
  · have z := of_decide_eq_true z
    have hk : k < ws.length := by
      rcases Nat.lt_or_ge k ws.length with h | h
      · exact h
      · rw [(drop_end W.k).mpr (by omega)] at z
        exact absurd z.1 (by decide +kernel)
    rw [drop_at hk] at z
    have z' : (ws[k]).2 = Vbenaj.W "field" ∧ fs.length < 10 := z
    rw [drop_at hk, lineP_cons, if_pos z'] at hE q
    refine q_move (W1.mono e2) hk rfl fun H3 W3 => ?_
    refine ⟨x1, rfl, p_call fs W3 O rfl (ad1 (ed_var rfl (h1.mono W3.e))) (fun d hd => by rw [List.mem_singleton.mp hd]; exact noW_map (noW_field T) fs) (by show fs.length ≤ 1000; omega) (fun p e => hE p (by rw [e])) fun f r x H' k' e W' hd ix => ?_⟩
    rw [e] at q
    refine ⟨(fs, f), (by show fs.length ≤ 1000; omega), .cons (h1.mono W'.e) (.cons ix .nil), fun y H4 e4 iy => ?_⟩
    exact q _ _ y H4 k' rfl (W'.mono e4) hd iy
  · have z1 := of_decide_eq_false z
    have W2 := W1.mono e2
    refine q_when (b := decide (aheadL (ws.drop k) = Vbenaj.W "code" ∧ 0 < fs.length ∧ (Vbenaj.lastCodes { holes := 0, fields := fs }).length < 8))
      (et_is (et_and (a := decide (aheadL (ws.drop k) = Vbenaj.W "code")) (b := decide (0 < fs.length ∧ (Vbenaj.lastCodes { holes := 0, fields := fs }).length < 8)) (et_eqS (ev_var rfl) (ev_is ev_c (by decide +kernel)))
        fun _ => et_is (et_and (a := decide (0 < fs.length)) (b := decide ((Vbenaj.lastCodes { holes := 0, fields := fs }).length < 8)) (et_is (et_gt (ev_lenD (ed_var rfl (h1.mono W2.e))) ev_c) (by rw [List.length_map]; simp)) fun hz => ?_) (by simp)) (by simp)) (fun z H3 e3 => ?_) fun z H3 e3 => ?_
    · obtain ⟨a, x, rfl⟩ := snoc_of (of_decide_eq_true hz)
      rw [lastCodes_snoc (f := { holes := 0, fields := a ++ [x] }) rfl]
      exact et_is (et_lt (ev_lenD (ed_field_codes T (ed_ix (d := fieldD x) (i := -1) (ed_var rfl (h1.mono W2.e)) ev_m1 (by rw [List.map_append]; exact atI_last)))) ev_c) (by rw [List.length_map]; simp; omega)
    · have z := of_decide_eq_true z
      have hk : k < ws.length := by
        rcases Nat.lt_or_ge k ws.length with h | h
        · exact h
        · rw [(drop_end W.k).mpr (by omega)] at z
          exact absurd z.1 (by decide +kernel)
      rw [drop_at hk] at z z1
      have z' : (ws[k]).2 = Vbenaj.W "code" ∧ 0 < fs.length ∧ (Vbenaj.lastCodes { holes := 0, fields := fs }).length < 8 := z
      have z1' : ¬ ((ws[k]).2 = Vbenaj.W "field" ∧ fs.length < 10) := z1
      rw [drop_at hk, lineP_cons, if_neg z1', if_pos z'] at hE q
      obtain ⟨a, x, rfl⟩ := snoc_of z.2.1
      have hx := hp.x x (List.mem_append_right _ List.mem_cons_self)
      have hxn := hx.n
      rw [lastCodes_snoc (f := { holes := 0, fields := a ++ [x] }) rfl] at hE q
      refine q_move (W2.mono e3) hk rfl fun H4 W4 => ?_
      refine ⟨x1, rfl, p_call x.codes W4 O rfl (ad1 (ed_field_codes T (ed_ix (d := fieldD x) (i := -1) (ed_var rfl (h1.mono W4.e)) ev_m1 (by rw [List.map_append]; exact atI_last)))) (fun d hd => by rw [List.mem_singleton.mp hd]; exact noW_map (noW_code T) _) (by show x.codes.length ≤ 1000; omega) (fun p e => hE p (by rw [e])) fun c r y H' k' e W' hd ix => ?_⟩
      rw [e] at q
      dsimp only at q
      rw [putLine_code (f := { holes := 0, fields := a ++ [x] }) rfl] at q
      rw [List.length_append, List.length_singleton] at hn
      refine ⟨(a, x, c), ⟨(by show a.length ≤ 1000; omega), (by show x.codes.length ≤ 1000; omega)⟩, .cons (h1.mono W'.e) (.cons ix .nil), fun y2 H5 e5 iy => ?_⟩
      exact q _ _ y2 H5 k' rfl (W'.mono e5) hd iy
    · have z2 := of_decide_eq_false z
      refine s_fault T (W2.mono e3) rfl (hE _ ?_)
      cases h : ws.drop k with
      | nil => rfl
      | cons v r =>
        rw [h] at z1 z2
        rw [lineP_cons, if_neg (show ¬ (v.2 = _ ∧ _) from z1), if_neg (show ¬ (v.2 = _ ∧ _) from z2)]
        rfl
end take_line
namespace read_line
def sp (K : PySem.W.Frag) : Sp := fun vs H Q E => ∃ (t : List Nat) (fs : List NX), (t.length ≤ 2000 ∧ ∀ b ∈ t, b < 256) ∧ OkFs fs ∧ IsL K H vs [natsD t, .lst (fs.map fieldD)] ∧
  (∀ p, readLineP fs t = .error p → RaiseK K "Fault" (faultF p) H E) ∧ ∀ fs', readLineP fs t = .ok fs' → RetD K (.lst (fs'.map fieldD)) H Q
theorem len : ∀ vs H Q E, sp K vs H Q E → vs.length = 2 := fun vs H Q E ⟨t, fs, _, _, i, _⟩ => i.length
abbrev sS : Stmt := s_read_line
abbrev nN : List PySem.Str := ["text", "fields", "words", "more"]
theorem sc : FnScope nN ["text", "fields"] (defScope sS) := ⟨rfl, rfl, rfl, by decide +kernel, rfl, by decide +kernel, by decide +kernel⟩
theorem ok (T : Txt K mg) : CalX P w K mg base 8 "read_line" (sp K) := by
  have d_Words_ended := Words_ended.ok (P := P) (w := w) (base := base) T
  have i_Fault := Fault_init.ok (P := P) (w := w) (base := base) T
  have d_Words_where := Words_where.ok (P := P) (w := w) (base := base) T
  have d_take_line := take_line.ok (P := P) (w := w) (base := base) T
  have m_Words := Words_init.ok (P := P) (w := w) (base := base) T
  refine calx_of T.d_read_line.1 T.d_read_line.2 sc len (fun _ _ _ _ _ _ us hl => match us, hl with | [_, _], _ => rfl) fun cdv A outer s H vs Q E hr hs => ⟨_, (pss_cons (ps_set (i := 2) sc.nd rfl (Or.inl rfl) (pe_mk m_Words hr (by decide) rfl (pa_cons (pv 0) pa_nil))) (pss_cons (ps_set (i := 3) sc.nd rfl (Or.inl rfl) (pe_cX d_take_line hr (by decide) rfl (takes_of rfl rfl rfl rfl) (pa_cons (pv 2) (pa_cons (pv 1) pa_nil)))) (pss_cons (ps_if (pt_not (pt_val (pe_mt0 d_Words_ended hr (by decide) (pv 2)))) (pss_one (ps_rai i_Fault rfl hr (by decide) (by rfl) (takes_of rfl rfl rfl rfl) (pa_cons (pe_mt0 d_Words_where hr (by decide) (pv 2)) pa_nil))) pss_nil) (pss_one (ps_ret (pv 3)))))), ?_⟩
  obtain ⟨t, fs, ⟨ht, hb⟩, hf, i, hE, q⟩ := hs
  obtain ⟨x0, x1, rfl, h0, h1⟩ := i.a2
  unfold readLineP at hE q
  refine q_words (t := t) (ed_var rfl h0) ht hb fun wa dx wl Hb H1 e1 W => ?_
  have O := wordsI_ok ht
  refine q_callP fs W O rfl (ad1 (ed_var rfl (h1.mono (e1.trans W.e)))) (fun d hd => by rw [List.mem_singleton.mp hd]; exact noW_map (noW_field T) fs) hf (fun p e => ?_) fun fs' r x H2 k2 e W2 hd ix => ?_
  · rw [List.drop_zero] at e
    exact (hE p (by rw [e])).mono e1
  · rw [List.drop_zero] at e
    rw [e] at hE q
    dsimp only at hE q
    refine q_when (b := !decide (k2 = (wordsI t).length)) (et_not (et_test (ev_ended W2 rfl))) (fun z H3 e3 => ?_) fun z H3 e3 => ?_
    · have z2 : ¬ k2 = (wordsI t).length := fun y => by rw [decide_eq_true y] at z; cases z
      have hk : k2 < (wordsI t).length := by have := W2.k; omega
      refine s_fault T (W2.mono e3) rfl ?_
      rw [drop_at hk] at hd ⊢
      subst hd
      exact (hE _ rfl).mono e1
    · have z2 : k2 = (wordsI t).length := by
        by_cases y : k2 = (wordsI t).length
        · exact y
        · rw [decide_eq_false y] at z; cases z
      have hr : r = [] := by rw [← hd]; exact (drop_end W2.k).mpr z2
      subst hr
      exact s_retD' ((e1.trans W2.e).trans e3) (ed_var rfl (ix.mono e3)) (q fs' rfl)
end read_line
namespace read_file
def sp (K : PySem.W.Frag) : Sp := fun vs H Q E => ∃ (t : List Nat), (t.length ≤ 2000 ∧ ∀ b ∈ t, b < 256) ∧ IsL K H vs [natsD t] ∧
  (∀ p, readFileP t = .error p → RaiseK K "Fault" (faultF p) H E) ∧ ∀ g, readFileP t = .ok g → RetD K (fileD g) H Q
theorem len : ∀ vs H Q E, sp K vs H Q E → vs.length = 1 := fun vs H Q E ⟨t, _, i, _⟩ => i.length
abbrev sS : Stmt := s_read_file
abbrev nN : List PySem.Str := ["text", "words", "holes", "fields"]
theorem sc : FnScope nN ["text"] (defScope sS) := ⟨rfl, rfl, rfl, by decide +kernel, rfl, by decide +kernel, by decide +kernel⟩
theorem ok (T : Txt K mg) : CalX P w K mg base 8 "read_file" (sp K) := by
  have m_CardFile := CardFile_init.ok (P := P) (w := w) (base := base) T
  have d_Words_ended := Words_ended.ok (P := P) (w := w) (base := base) T
  have d_take_line := take_line.ok (P := P) (w := w) (base := base) T
  have d_take_word := take_word.ok (P := P) (w := w) (base := base) T
  have d_take_number := take_number.ok (P := P) (w := w) (base := base) T
  have m_Words := Words_init.ok (P := P) (w := w) (base := base) T
  refine calx_of T.d_read_file.1 T.d_read_file.2 sc len (fun _ _ _ _ _ _ us hl => match us, hl with | [_], _ => rfl) fun cdv A outer s H vs Q E hr hs => ⟨_, (pss_cons (ps_set (i := 1) sc.nd rfl (Or.inl rfl) (pe_mk m_Words hr (by decide) rfl (pa_cons (pv 0) pa_nil))) (pss_cons (ps_expr (pe_cX d_take_word hr (by decide) rfl (takes_of rfl rfl rfl rfl) (pa_cons (pv 1) (pa_cons pe_str pa_nil)))) (pss_cons (ps_set (i := 2) sc.nd rfl (Or.inl rfl) (pe_cX d_take_number hr (by decide) rfl (takes_of rfl rfl rfl rfl) (pa_cons (pv 1) (pa_cons (pe_gc rfl T.c_MOST_HOLES) pa_nil)))) (pss_cons (ps_set (i := 3) sc.nd rfl (Or.inl rfl) (pe_lst pa_nil)) (pss_cons (ps_while (passes_of rfl) (pt_not (pt_val (pe_mt0 d_Words_ended hr (by decide) (pv 1)))) (pss_cons (ps_expr (pe_cX d_take_word hr (by decide) rfl (takes_of rfl rfl rfl rfl) (pa_cons (pv 1) (pa_cons (pe_gc rfl T.c_LINE_END) pa_nil)))) (pss_one (ps_set (i := 3) sc.nd rfl (Or.inl rfl) (pe_cX d_take_line hr (by decide) rfl (takes_of rfl rfl rfl rfl) (pa_cons (pv 1) (pa_cons (pv 3) pa_nil))))))) (pss_one (ps_ret (pe_mk m_CardFile hr (by decide) rfl (pa_cons (pv 2) (pa_cons (pv 3) pa_nil)))))))))), ?_⟩
  obtain ⟨t, ⟨ht, hb⟩, i, hE, q⟩ := hs
  obtain ⟨x0, rfl, h0⟩ := i.a1
  unfold readFileP at hE q
  refine q_words (t := t) (ed_var rfl h0) ht hb fun wa dx wl Hb H1 e1 W => ?_
  have O := wordsI_ok ht
  have d0 : (wordsI t).drop 0 = wordsI t := List.drop_zero
  refine q_word (b := Vbenaj.W "holes") W O rfl (ev_is ev_c (by decide +kernel)) (by decide +kernel) (fun p e => ?_) fun r H2 k2 e2 W2 hd2 => ?_
  · rw [d0] at e
    exact (hE p (by rw [e])).mono e1
  rw [d0] at e2
  subst hd2
  rw [e2] at hE q
  dsimp only at hE q
  refine q_num (hi := 60) W2 O rfl (ev_is ev_c rfl) (by omega) (fun p e => (hE p (by rw [show Vbenaj.HOLES = 60 from rfl, e])).mono e1) fun h r H3 k3 e3 W3 hd3 => ?_
  subst hd3
  rw [show Vbenaj.HOLES = 60 from rfl, e3] at hE q
  dsimp only at hE q
  refine q_asgL (el_lst ea_nil (by simp)) fun p H4 hp e4 hp4 => ?_
  have Wm := W3.mono e4
  have f0 : Is K H4 (.ref p) (.lst (([] : List NX).map fieldD)) := .lst hp4 .nil
  generalize hR0 : linesP t.length (((wordsI t).drop k3).length + 1) [] ((wordsI t).drop k3) = R at hE q
  refine q_while (fun m σ' H' => ∃ (Hb' : Hp) (k : Nat) (fs : List NX) (x3 : V) (g : Nat), Ex H Hb' ∧ WA K wa dx wl (wordsI t) t.length Hb' H' k ∧ OkFs fs ∧ Is K Hb' x3 (.lst (fs.map fieldD)) ∧ σ' = [some x0, some (.ref wa), some (.int (h : Nat)), some x3] ∧
    m = ((wordsI t).drop k).length ∧ m + 1 ≤ g ∧ linesP t.length g fs ((wordsI t).drop k) = R)
    ((wordsI t).drop k3).length ⟨_, k3, [], .ref p, _, e1.trans Wm.exd, Wm.up, ⟨by simp, (fun x hx => by cases hx)⟩, f0.del Wm.i (noW_map (noW_field T) _), rfl, rfl, Nat.le_refl _, hR0⟩ fun m σ' H' ⟨Hb', k, fs, x3, g, eb, Wk, of, if3, es, em2, hg, hR⟩ => ?_
  subst es em2
  refine ⟨!decide (k = (wordsI t).length), et_not (et_test (ev_ended Wk rfl)), fun z H4 e4 => ?_, fun z H4 e4 => ?_⟩
  · have z2 : ¬ k = (wordsI t).length := fun y => by rw [decide_eq_true y] at z; cases z
    have hk : k < (wordsI t).length := by have := Wk.k; omega
    refine ⟨_, fun σ2 H2 h => h, ?_⟩
    obtain ⟨g', rfl⟩ : ∃ g', g = g' + 1 := ⟨g - 1, by omega⟩
    have hne : ((wordsI t).drop k).isEmpty = false := by rw [drop_at hk]; rfl
    unfold linesP at hR
    rw [if_neg (by rw [hne]; decide)] at hR
    rw [← hR] at hE q
    refine q_word (b := [10]) (Wk.mono e4) O rfl (ev_is ev_c rfl) (by simp) (fun p e => (hE p (by rw [e])).mono eb) fun r H5 k5 e5 W5 hd5 => ?_
    subst hd5
    rw [e5] at hE q hR
    dsimp only at hE q hR
    obtain ⟨v, ev, _⟩ := must_ok e5
    have lv : ((wordsI t).drop k).length = ((wordsI t).drop k5).length + 1 := by rw [ev]; rfl
    refine s_callP fs W5 O rfl (ad1 (ed_var rfl (if3.mono W5.e))) (fun d hd => by rw [List.mem_singleton.mp hd]; exact noW_map (noW_field T) fs) of (fun p e => (hE p (by rw [e])).mono eb) fun fs' r x H6 k6 e6 W6 hd6 ix => ?_
    subst hd6
    rw [e6] at hR
    dsimp only at hR
    obtain ⟨o6, l6⟩ := lineP_ok of e6
    exact ⟨((wordsI t).drop k6).length, by omega, _, k6, fs', x, g', eb.trans W6.exd, W6.up, o6, ix.del W6.i (noW_map (noW_field T) fs'), rfl, rfl, by omega, hR⟩
  · have z2 : k = (wordsI t).length := by
      by_cases y : k = (wordsI t).length
      · exact y
      · rw [decide_eq_false y] at z; cases z
    obtain ⟨g', rfl⟩ : ∃ g', g = g' + 1 := ⟨g - 1, by omega⟩
    rw [(drop_end Wk.k).mpr z2] at hR
    have hR2 : R = .ok fs := hR.symm
    rw [hR2] at q
    dsimp only at q
    exact s_retD' ((eb.trans Wk.e).trans e4) (EvD.eq (ed_make (c := "CardFile") (ns := ["holes", "fields"]) (ad2 (ed_v (ev_var rfl)) (ed_var rfl (if3.mono (Wk.e.trans e4)))) rfl) rfl) (q _ rfl)
end read_file
end
end Nt

set_option maxHeartbeats 4000000
namespace Nt
open PySem PySem.Spec PyProof.Rows L2 Evl
open C8 (Cal Mak Met pe_c pe_mk pe_mt pe_mt0 pe_gc)
section
variable {P : Program} {w : World} {K : PySem.W.Frag} {mg : PySem.Str → Option Value} {base : Heap}
section
variable {σ : L2.St} {H : Hp} {ta tb : TE} {fs : List NX} {x : NX} {c : NC} {i : Nat} {z : Int}
theorem ed_field (h : EvD K ta σ H (.lst (fs.map fieldD))) (hi : Ev tb σ H (.int z)) (e : z = (i : Int)) (hx : fs[i]? = some x) : EvD K (tOp (rIxL K) ta tb) σ H (fieldD x) := by
  subst e
  exact ed_ix h hi (atI_nat' (by rw [List.getElem?_map, hx]; rfl))
theorem ed_code (h : EvD K ta σ H (.lst (x.codes.map codeD))) (hi : Ev tb σ H (.int z)) (e : z = (i : Int)) (hc : x.codes[i]? = some c) : EvD K (tOp (rIxL K) ta tb) σ H (codeD c) := by
  subst e
  exact ed_ix h hi (atI_nat' (by rw [List.getElem?_map, hc]; rfl))
end
def cutAt {α : Type} (l : List α) (i : Nat) : List α := l.take i ++ l.drop (i + 1)
def setAt {α : Type} (l : List α) (i : Nat) (y : α) : List α := l.take i ++ [y] ++ l.drop (i + 1)
namespace without_field
def sp (K : PySem.W.Frag) : Sp := spF K (fun a : List NX × Nat => a.1.length ≤ 1000 ∧ a.2 < a.1.length) (fun a => [.lst (a.1.map fieldD), .i (a.2 : Nat)]) fun a => .lst ((cutAt a.1 a.2).map fieldD)
theorem len : ∀ vs H Q E, sp K vs H Q E → vs.length = 2 := spF_len fun _ => rfl
abbrev sS : Stmt := s_without_field
abbrev nN : List PySem.Str := ["fields", "i"]
theorem sc : FnScope nN ["fields", "i"] (defScope sS) := ⟨rfl, rfl, rfl, by decide +kernel, rfl, by decide +kernel, by decide +kernel⟩
theorem ok (T : Txt K mg) : Cal P w K mg base 1 "without_field" (sp K) [] := by
  refine cal_of T.d_without_field.1 T.d_without_field.2 sc len (fun _ _ _ _ _ _ us hl => match us, hl with | [_, _], _ => rfl) fun cdv A outer s H vs Q E hr hs => ⟨_, PSs.nox (pss_one (ps_ret (pe_op op_cat (pe_slice sl_list (pv 0) po_none (po_some (pv 1))) (pe_slice sl_list (pv 0) (po_some (pe_op op_add (pv 1) pe_int)) po_none)))), ?_⟩
  obtain ⟨⟨fs, n⟩, ⟨hf, hn⟩, i, k⟩ := hs
  obtain ⟨x0, x1, rfl, h0, h1⟩ := i.a2
  cases h1.val
  dsimp only at hf hn h0 k
  refine s_retD (EvD.eq (ed_cat (ed_to (i := n) (ed_var rfl h0) (ev_var rfl) (by rw [List.length_map]; omega)) (ed_from (i := n + 1) (ed_var rfl h0) (ev_is (ev_add (ev_var rfl) ev_c) rfl) (by rw [List.length_map]; omega)) ?_) ?_) k
  · rw [List.length_take, List.length_drop, List.length_map]
    omega
  · unfold cutAt
    rw [List.map_append, List.map_take, List.map_drop]
end without_field
namespace with_asked
def sp (K : PySem.W.Frag) : Sp := spF K (fun a : List NX × Nat × Nat × NX => a.1.length ≤ 1000 ∧ a.1[a.2.1]? = some a.2.2.2) (fun a => [.lst (a.1.map fieldD), .i (a.2.1 : Nat), .i (a.2.2.1 : Nat)]) fun a => .lst ((setAt a.1 a.2.1 { a.2.2.2 with asked := a.2.2.1 }).map fieldD)
theorem len : ∀ vs H Q E, sp K vs H Q E → vs.length = 3 := spF_len fun _ => rfl
abbrev sS : Stmt := s_with_asked
abbrev nN : List PySem.Str := ["fields", "i", "asked"]
theorem sc : FnScope nN ["fields", "i", "asked"] (defScope sS) := ⟨rfl, rfl, rfl, by decide +kernel, rfl, by decide +kernel, by decide +kernel⟩
theorem ok (T : Txt K mg) : Cal P w K mg base 3 "with_asked" (sp K) [] := by
  have m_Field := Field_init.ok (P := P) (w := w) (base := base) T
  refine cal_of T.d_with_asked.1 T.d_with_asked.2 sc len (fun _ _ _ _ _ _ us hl => match us, hl with | [_, _, _], _ => rfl) fun cdv A outer s H vs Q E hr hs => ⟨_, PSs.nox (pss_one (ps_ret (pe_op op_cat (pe_op op_cat (pe_slice sl_list (pv 0) po_none (po_some (pv 1))) (pe_lst (pa_cons (pe_mk m_Field hr (by decide) rfl (pa_cons (pe_fld (pe_ix ix_list (pv 0) (pv 1) (fun _ _ => rfl)) rfl) (pa_cons (pv 2) (pa_cons (pe_fld (pe_ix ix_list (pv 0) (pv 1) (fun _ _ => rfl)) rfl) pa_nil)))) pa_nil))) (pe_slice sl_list (pv 0) (po_some (pe_op op_add (pv 1) pe_int)) po_none)))), ?_⟩
  obtain ⟨⟨fs, n, m, x⟩, ⟨hf, hx⟩, i, k⟩ := hs
  obtain ⟨x0, x1, x2, rfl, h0, h1, h2⟩ := i.a3
  cases h1.val
  cases h2.val
  dsimp only at hf hx h0 k
  have hn := (List.getElem?_eq_some_iff.mp hx).1
  refine s_retD (EvD.eq (ed_cat (ed_cat (ed_to (i := n) (ed_var rfl h0) (ev_var rfl) (by rw [List.length_map]; omega))
    (ed_lst (ad1 (ed_make (ad3 (ed_v (ed_field_name T (ed_field (ed_var rfl h0) (ev_var rfl) rfl hx))) (ed_v (ev_var rfl)) (ed_field_codes T (ed_field (ed_var rfl h0) (ev_var rfl) rfl hx))) rfl)) (by simp)) ?_)
    (ed_from (i := n + 1) (ed_var rfl h0) (ev_is (ev_add (ev_var rfl) ev_c) rfl) (by rw [List.length_map]; omega)) ?_) ?_) k
  · rw [List.length_take, List.length_map]
    simp
    omega
  · rw [List.length_append, List.length_take, List.length_drop, List.length_map]
    simp
    omega
  · unfold setAt
    rw [List.map_append, List.map_append, List.map_take, List.map_drop]
    rfl
end with_asked
namespace with_only_code
def sp (K : PySem.W.Frag) : Sp := spF K (fun a : List NX × Nat × Nat × NX × NC => a.1.length ≤ 1000 ∧ a.1[a.2.1]? = some a.2.2.2.1 ∧ a.2.2.2.1.codes[a.2.2.1]? = some a.2.2.2.2) (fun a => [.lst (a.1.map fieldD), .i (a.2.1 : Nat), .i (a.2.2.1 : Nat)])
  fun a => .lst ((setAt a.1 a.2.1 { a.2.2.2.1 with codes := [a.2.2.2.2] }).map fieldD)
theorem len : ∀ vs H Q E, sp K vs H Q E → vs.length = 3 := spF_len fun _ => rfl
abbrev sS : Stmt := s_with_only_code
abbrev nN : List PySem.Str := ["fields", "i", "c"]
theorem sc : FnScope nN ["fields", "i", "c"] (defScope sS) := ⟨rfl, rfl, rfl, by decide +kernel, rfl, by decide +kernel, by decide +kernel⟩
theorem ok (T : Txt K mg) : Cal P w K mg base 3 "with_only_code" (sp K) [] := by
  have m_Field := Field_init.ok (P := P) (w := w) (base := base) T
  refine cal_of T.d_with_only_code.1 T.d_with_only_code.2 sc len (fun _ _ _ _ _ _ us hl => match us, hl with | [_, _, _], _ => rfl) fun cdv A outer s H vs Q E hr hs => ⟨_, PSs.nox (pss_one (ps_ret (pe_op op_cat (pe_op op_cat (pe_slice sl_list (pv 0) po_none (po_some (pv 1))) (pe_lst (pa_cons (pe_mk m_Field hr (by decide) rfl (pa_cons (pe_fld (pe_ix ix_list (pv 0) (pv 1) (fun _ _ => rfl)) rfl) (pa_cons (pe_fld (pe_ix ix_list (pv 0) (pv 1) (fun _ _ => rfl)) rfl) (pa_cons (pe_lst (pa_cons (pe_ix ix_list (pe_fld (pe_ix ix_list (pv 0) (pv 1) (fun _ _ => rfl)) rfl) (pv 2) (fun _ _ => rfl)) pa_nil)) pa_nil)))) pa_nil))) (pe_slice sl_list (pv 0) (po_some (pe_op op_add (pv 1) pe_int)) po_none)))), ?_⟩
  obtain ⟨⟨fs, n, m, x, c⟩, ⟨hf, hx, hc⟩, i, k⟩ := hs
  obtain ⟨x0, x1, x2, rfl, h0, h1, h2⟩ := i.a3
  cases h1.val
  cases h2.val
  dsimp only at hf hx hc h0 k
  have hn := (List.getElem?_eq_some_iff.mp hx).1
  refine s_retD (EvD.eq (ed_cat (ed_cat (ed_to (i := n) (ed_var rfl h0) (ev_var rfl) (by rw [List.length_map]; omega))
    (ed_lst (ad1 (ed_make (ad3 (ed_v (ed_field_name T (ed_field (ed_var rfl h0) (ev_var rfl) rfl hx))) (ed_v (ed_field_asked T (ed_field (ed_var rfl h0) (ev_var rfl) rfl hx)))
      (ed_lst (ad1 (ed_code (ed_field_codes T (ed_field (ed_var rfl h0) (ev_var rfl) rfl hx)) (ev_var rfl) rfl hc)) (by simp))) rfl)) (by simp)) ?_)
    (ed_from (i := n + 1) (ed_var rfl h0) (ev_is (ev_add (ev_var rfl) ev_c) rfl) (by rw [List.length_map]; omega)) ?_) ?_) k
  · rw [List.length_take, List.length_map]
    simp
    omega
  · rw [List.length_append, List.length_take, List.length_drop, List.length_map]
    simp
    omega
  · unfold setAt
    rw [List.map_append, List.map_append, List.map_take, List.map_drop]
    rfl
end with_only_code
namespace curve
def sp (K : PySem.W.Frag) : Sp := spF K (fun f : NF => OkF f) (fun f => [fileD f]) fun f => rowD (rowI f.holes f.fields)
theorem len : ∀ vs H Q E, sp K vs H Q E → vs.length = 1 := spF_len fun _ => rfl
abbrev sS : Stmt := s_curve
abbrev nN : List PySem.Str := ["file"]
theorem sc : FnScope nN ["file"] (defScope sS) := ⟨rfl, rfl, rfl, by decide +kernel, rfl, by decide +kernel, by decide +kernel⟩
theorem ok (T : Txt K mg) : Cal P w K mg base 5 "curve" (sp K) [] := by
  have d_table := table.ok (P := P) (w := w) (base := base) T
  refine cal_of T.d_curve.1 T.d_curve.2 sc len (fun _ _ _ _ _ _ us hl => match us, hl with | [_], _ => rfl) fun cdv A outer s H vs Q E hr hs => ⟨_, PSs.nox (pss_one (ps_ret (pe_ix ix_list (pe_c d_table hr (by decide) rfl (pa_cons (pv 0) pa_nil)) pe_int (fun _ _ => rfl)))), ?_⟩
  obtain ⟨f, hf, i, k⟩ := hs
  obtain ⟨x0, rfl, h0⟩ := i.a1
  dsimp only at hf h0 k
  refine s_retD (ed_ix (i := 0) (ed_callF f (ad1 (ed_var rfl h0)) hf) ev_c (atI_nat' (j := 0) ?_)) k
  rw [List.getElem?_map, tabI_get f.holes f.fields 0 (Nat.zero_le _)]
  rfl
end curve
namespace least_cost
def sp (K : PySem.W.Frag) : Sp := spF K (fun f : NF => OkF f) (fun f => [fileD f]) fun f => .v (optV ((rowI f.holes f.fields).getD f.holes none))
theorem len : ∀ vs H Q E, sp K vs H Q E → vs.length = 1 := spF_len fun _ => rfl
abbrev sS : Stmt := s_least_cost
abbrev nN : List PySem.Str := ["file"]
theorem sc : FnScope nN ["file"] (defScope sS) := ⟨rfl, rfl, rfl, by decide +kernel, rfl, by decide +kernel, by decide +kernel⟩
theorem ok (T : Txt K mg) : Cal P w K mg base 6 "least_cost" (sp K) [] := by
  have d_curve := curve.ok (P := P) (w := w) (base := base) T
  refine cal_of T.d_least_cost.1 T.d_least_cost.2 sc len (fun _ _ _ _ _ _ us hl => match us, hl with | [_], _ => rfl) fun cdv A outer s H vs Q E hr hs => ⟨_, PSs.nox (pss_one (ps_ret (pe_ix ix_list (pe_c d_curve hr (by decide) rfl (pa_cons (pv 0) pa_nil)) (pe_fld (pv 0) rfl) (fun _ _ => rfl)))), ?_⟩
  obtain ⟨f, hf, i, k⟩ := hs
  obtain ⟨x0, rfl, h0⟩ := i.a1
  dsimp only at hf h0 k
  exact s_retD (ed_v (ev_ixRow (ed_callF f (ad1 (ed_var rfl h0)) hf) (ed_file_holes T (ed_var rfl h0)) rfl (by rw [rowI_length]; omega))) k
end least_cost
def planD : Option (List Nat) → D
  | none => .v .non
  | some l => natsD l
namespace least_plan
def sp (K : PySem.W.Frag) : Sp := spF K (fun f : NF => OkF f) (fun f => [fileD f]) fun f => planD (leastPlanI f)
theorem len : ∀ vs H Q E, sp K vs H Q E → vs.length = 1 := spF_len fun _ => rfl
abbrev sS : Stmt := s_least_plan
abbrev nN : List PySem.Str := ["file", "rows", "plan", "holes", "number", "field", "costs", "chosen"]
theorem sc : FnScope nN ["file"] (defScope sS) := ⟨rfl, rfl, rfl, by decide +kernel, rfl, by decide +kernel, by decide +kernel⟩
theorem ok (T : Txt K mg) : Cal P w K mg base 5 "least_plan" (sp K) [] := by
  have d_costs_with := costs_with.ok (P := P) (w := w) (base := base) T
  have d_table := table.ok (P := P) (w := w) (base := base) T
  refine cal_of T.d_least_plan.1 T.d_least_plan.2 sc len (fun _ _ _ _ _ _ us hl => match us, hl with | [_], _ => rfl) fun cdv A outer s H vs Q E hr hs => ⟨_, PSs.nox (pss_cons (ps_set (i := 1) sc.nd rfl (Or.inl rfl) (pe_c d_table hr (by decide) rfl (pa_cons (pv 0) pa_nil))) (pss_cons (ps_if (pt_cmpR op_isN (pe_ix ix_list (pe_ix ix_list (pv 1) pe_int (fun _ _ => rfl)) (pe_fld (pv 0) rfl) (fun _ _ => rfl)) pe_non (nomark _)) (pss_one (ps_ret pe_non)) pss_nil) (pss_cons (ps_set (i := 2) sc.nd rfl (Or.inl rfl) (pe_lst pa_nil)) (pss_cons (ps_set (i := 3) sc.nd rfl (Or.inl rfl) (pe_fld (pv 0) rfl)) (pss_cons (ps_for PassesOwn.never rfl (pi_enum (by rfl) T.f_enumerate (pa_cons (pe_fld (pv 0) rfl) pa_nil)) (pg_tup rfl (pgs_cons (pg_name (i := 4) sc.nd rfl (Or.inl rfl)) (pgs_cons (pg_name (i := 5) sc.nd rfl (Or.inl rfl)) pgs_nil))) (pss_cons (ps_set (i := 6) sc.nd rfl (Or.inl rfl) (pe_c d_costs_with hr (by decide) rfl (pa_cons (pv 5) (pa_cons (pe_ix ix_list (pv 1) (pe_op op_add (pv 4) pe_int) (fun _ _ => rfl)) (pa_cons (pv 3) pa_nil))))) (pss_cons (ps_set (i := 7) sc.nd rfl (Or.inl rfl) (pe_bm PySem.F.plainAttrs_list PySem.F.slot_list_index PySem.F.type_list_index mt_index (pv 6) (pa_cons (pe_ix ix_list (pe_ix ix_list (pv 1) (pv 4) (fun _ _ => rfl)) (pv 3) (fun _ _ => rfl)) pa_nil))) (pss_cons (ps_expr (pe_bm PySem.F.plainAttrs_list PySem.F.slot_list_append PySem.F.type_list_append mt_append (pv 2) (pa_cons (pv 7) pa_nil))) (pss_one (ps_aug (i := 3) sc.nd rfl (Or.inl rfl) (pe_fld (pe_ix ix_list (pe_fld (pv 5) rfl) (pv 7) (fun _ _ => rfl)) rfl) ip_sub)))))) (pss_one (ps_ret (pv 2)))))))), ?_⟩
  obtain ⟨f, hf, i, k⟩ := hs
  obtain ⟨x0, rfl, h0⟩ := i.a1
  dsimp only at hf h0 k
  refine q_asgD (ed_callF f (ad1 (ed_var rfl h0)) hf) fun y H1 e1 iy => ?_
  have rowAt : ∀ {n : Nat}, n ≤ f.fields.length → ((tabI f.holes f.fields).map rowD)[n]? = some (rowD (rowI f.holes (f.fields.drop n))) := fun {n} hn => by
    rw [List.getElem?_map, tabI_get f.holes f.fields n hn]
    rfl
  have j0 := h0.mono e1
  have hfh := hf.h
  refine q_when (et_isN (o := (rowI f.holes f.fields).getD f.holes none) (ev_ixRow (r := rowI f.holes f.fields) (j := f.holes) (ed_ix (i := 0) (ed_var rfl iy) ev_c (atI_nat' (j := 0) (rowAt (Nat.zero_le _)))) (ed_file_holes T (ed_var rfl j0)) rfl (by rw [rowI_length]; omega))) (fun z H2 e2 => ?_) fun z H2 e2 => ?_
  · have z2 := of_decide_eq_true z
    refine s_retD' (e1.trans e2) (EvD.eq (ed_v ev_c) ?_) k
    unfold leastPlanI
    rw [if_pos z2]
    rfl
  · have z2 := of_decide_eq_false z
    obtain ⟨v, hv⟩ := Option.ne_none_iff_exists'.mp z2
    have e12 := e1.trans e2
    refine q_asgL (el_lst ea_nil (by simp)) fun p H3 hp e3 hp3 => ?_
    have e13 := e12.trans e3
    have hpH : H p = none := fresh_back e12 hp
    refine q_asg (ed_file_holes T (ed_var rfl (h0.mono e13))) fun H4 e4 => ?_
    have e14 := e13.trans e4
    have iy2 : Is K H2 y (.lst ((tabI f.holes f.fields).map rowD)) := iy.mono e2
    refine s_forEX (H0 := H2) (e3.trans e4) (xd_file_fields T (xd_var rfl (h0.mono e12))) (fun i σ' H' => Ex H2 H' ∧ ∃ (b : List Nat) (h : Nat) (u : Int) (c1 c2 c3 c4 : Option V), H' p = some (.lst (b.map fun n => V.int (n : Nat))) ∧ h ≤ f.holes ∧ (rowI f.holes (f.fields.drop i)).getD h none = some u ∧ b.length ≤ i ∧
      planI f.holes f.fields f.holes = b ++ planI f.holes (f.fields.drop i) h ∧ σ' = [some x0, some y, some (.ref p), some (.int (h : Nat)), c1, c2, c3, c4]) (fun H5 e5 => ⟨(e3.trans e4).trans e5, [], f.holes, v, _, _, _, _, e5 _ _ (e4 _ _ hp3), Nat.le_refl _, hv, Nat.le_refl _, rfl, rfl⟩) (fun _ _ _ q => q.1) ?_ ?_
    · rintro i c y2 σ' Ha Hb hc ic ⟨ex, b, h, u, c1, c2, c3, c4, hb, hh, hu, hbl, hpl, rfl⟩ ⟨Ta, o, hT, rfl⟩
      have exn := ex.trans (Ex.new (o := o) hT)
      obtain ⟨hi, hc2⟩ := List.getElem?_eq_some_iff.mp hc
      have hd : f.fields.drop i = c :: f.fields.drop (i + 1) := by rw [List.drop_eq_getElem_cons hi, hc2]
      rw [hd] at hu hpl
      have hfx : OkX c := hf.x c (List.mem_of_getElem? hc)
      have hu2 := hu
      rw [rowI_cons_getD f.holes c _ h hh] at hu2
      obtain ⟨hcf, n, hn, hv2⟩ := chosen_fits hu2
      have hcl := chosen_lt hu2
      have hlt : h < (rowI f.holes (f.fields.drop (i + 1))).length := by rw [rowI_length]; omega
      have hca := chosen_at hu2
      have jy := iy2.mono exn
      have hbb : (L2.upd Ha Ta o) p = some (.lst (b.map fun n => V.int (n : Nat))) := Ex.new hT _ _ hb
      refine q_asgD (d := rowD (costsWith c (rowI f.holes (f.fields.drop (i + 1))) h)) (ed_callF (c, rowI f.holes (f.fields.drop (i + 1)), h) (ad3 (ed_var rfl (ic.mono exn)) (ed_ix (i := ((i + 1 : Nat) : Int)) (ed_var rfl jy) (ev_is (ev_add (ev_var rfl) ev_c) rfl) (atI_nat' (rowAt hi))) (ed_v (ev_var rfl))) ⟨hfx, by rw [rowI_length]; omega, hlt⟩) fun z3 H5 e5 iz => ?_
      refine q_asg (ev_index (l := costsWith c (rowI f.holes (f.fields.drop (i + 1))) h) (o := some u) (j := chosen c (rowI f.holes (f.fields.drop (i + 1))) h) (ed_var rfl iz) ?_ hca (fun m z hm hz => chosen_before hu2 hm hz)) fun H6 e6 => ?_
      · refine ev_is (ev_ixRow (r := rowI f.holes (f.fields.drop i)) (j := h) (ed_ix (i := (i : Int)) (ed_var rfl (jy.mono e5)) (ev_var rfl) (atI_nat' (rowAt (Nat.le_of_lt hi)))) (ev_var rfl) rfl (by rw [rowI_length]; omega)) ?_
        rw [hd, hu]
      · have e56 := e5.trans e6
        refine q_app (e56 _ _ hbb) (ev_var rfl) (ev_var rfl) (by rw [List.length_map]; have := hf.n; omega) fun H7 e7 => ?_
        have hpn : H2 p = none := hp
        have exm : Ex H2 (L2.upd H7 p (.lst (b.map (fun n => V.int (n : Nat)) ++ [V.int (chosen c (rowI f.holes (f.fields.drop (i + 1))) h : Nat)]))) := Ex.mut ((exn.trans e56).trans e7) hpn
        have jc := ic.mono exm
        refine s_aug (f := fun i j => i - j) (a := (h : Int)) rfl (ed_code_holes T (ed_code (c := Vbenaj.codeAt c (chosen c (rowI f.holes (f.fields.drop (i + 1))) h)) (ed_field_codes T (ed_var rfl jc)) (ev_var rfl) rfl (codeAt_get hcl))) fun H8 e8 => ?_
        have e9 : ((h : Int) - ((Vbenaj.codeAt c (chosen c (rowI f.holes (f.fields.drop (i + 1))) h)).holes : Int)) = ((h - (Vbenaj.codeAt c (chosen c (rowI f.holes (f.fields.drop (i + 1))) h)).holes : Nat) : Int) := by omega
        rw [e9]
        refine ⟨exm.trans e8, b ++ [chosen c (rowI f.holes (f.fields.drop (i + 1))) h], h - (Vbenaj.codeAt c (chosen c (rowI f.holes (f.fields.drop (i + 1))) h)).holes, n, some (.int (i : Nat)), some y2, some z3, some (.int (chosen c (rowI f.holes (f.fields.drop (i + 1))) h : Nat)), ?_, by omega, hn, by rw [List.length_append]; simp; omega, ?_, rfl⟩
        · rw [List.map_append]
          exact e8 _ _ upd_same
        · rw [hpl, List.append_assoc]
          rfl
    · rintro σ' H' ⟨ex, b, h, u, c1, c2, c3, c4, hb, hh, hu, hbl, hpl, rfl⟩
      refine s_retD' (e12.trans ex) (EvD.eq (ed_var rfl (Is.vals hb)) ?_) k
      rw [List.drop_length] at hpl
      have e9 : leastPlanI f = some b := by
        unfold leastPlanI
        rw [if_neg z2, hpl]
        simp [planI]
      rw [e9]
      exact (natsD_eq b).symm
end least_plan
end
end Nt

set_option maxHeartbeats 4000000
namespace Nt
open PySem PySem.Spec PyProof.Rows L2 Evl
open C8 (Cal Mak Met pe_c pe_mk pe_mt pe_mt0 pe_gc)
theorem rowD_o (r : Row) : rowD r = .lst (r.map fun o => D.v (optV o)) := by unfold rowD; rw [List.map_map]; rfl
theorem take_sum {l : List Nat} {i : Nat} {n : Nat} (h : l[i]? = some n) : (l.take (i + 1)).sum = (l.take i).sum + n := by
  obtain ⟨h1, h2⟩ := List.getElem?_eq_some_iff.mp h
  rw [List.take_succ_eq_append_getElem h1, List.sum_append, h2]
  simp
theorem mem_setAt {α : Type} {l : List α} {i : Nat} {y z : α} (h : z ∈ setAt l i y) : z = y ∨ z ∈ l := by
  unfold setAt at h
  rcases List.mem_append.mp h with h | h
  · rcases List.mem_append.mp h with h | h
    · exact .inr (List.mem_of_mem_take h)
    · exact .inl (List.mem_singleton.mp h)
  · exact .inr (List.mem_of_mem_drop h)
theorem setAt_length {α : Type} {l : List α} {i : Nat} {y : α} (h : i < l.length) : (setAt l i y).length = l.length := by
  unfold setAt
  simp
  omega
def forcedF (f : NF) (i : Nat) (x : NX) (c : NC) : NF := { f with fields := setAt f.fields i { x with codes := [c] } }
theorem forced_ok {f : NF} {i k : Nat} {x : NX} {c : NC} (hf : OkF f) (hx : f.fields[i]? = some x) (hc : x.codes[k]? = some c) : OkF (forcedF f i x c) := by
  have hi := (List.getElem?_eq_some_iff.mp hx).1
  have ox := hf.x x (List.mem_of_getElem? hx)
  refine ⟨hf.h, by show (setAt _ _ _).length ≤ 10; rw [setAt_length hi]; exact hf.n, fun z hz => ?_⟩
  rcases mem_setAt hz with e | e
  · rw [e]
    exact ⟨ox.a, by show [c].length ≤ 8; simp, fun d hd => by rw [List.mem_singleton.mp hd]; exact ox.c c (List.mem_of_getElem? hc), ox.n1, ox.n2, ox.n3⟩
  · exact hf.x z e
theorem leastPlan_len {f : NF} {p : List Nat} (h : leastPlanI f = some p) : p.length = f.fields.length := by
  unfold leastPlanI at h
  split at h
  · cases h
  · cases h
    exact planI_length _ _ _
section
variable {P : Program} {w : World} {K : PySem.W.Frag} {mg : PySem.Str → Option Value} {base : Heap}
namespace least_plan_with
def sp (K : PySem.W.Frag) : Sp := spF K (fun a : NF × Nat × Nat × NX × NC => OkF a.1 ∧ a.1.fields[a.2.1]? = some a.2.2.2.1 ∧ a.2.2.2.1.codes[a.2.2.1]? = some a.2.2.2.2) (fun a => [fileD a.1, .i (a.2.1 : Nat), .i (a.2.2.1 : Nat)])
  fun a => planD ((leastPlanI (forcedF a.1 a.2.1 a.2.2.2.1 a.2.2.2.2)).map fun p => setAt p a.2.1 a.2.2.1)
theorem len : ∀ vs H Q E, sp K vs H Q E → vs.length = 3 := spF_len fun _ => rfl
abbrev sS : Stmt := s_least_plan_with
abbrev nN : List PySem.Str := ["file", "i", "c", "plan"]
theorem sc : FnScope nN ["file", "i", "c"] (defScope sS) := ⟨rfl, rfl, rfl, by decide +kernel, rfl, by decide +kernel, by decide +kernel⟩
theorem ok (T : Txt K mg) : Cal P w K mg base 6 "least_plan_with" (sp K) [] := by
  have d_least_plan := least_plan.ok (P := P) (w := w) (base := base) T
  have m_CardFile := CardFile_init.ok (P := P) (w := w) (base := base) T
  have d_with_only_code := with_only_code.ok (P := P) (w := w) (base := base) T
  refine cal_of T.d_least_plan_with.1 T.d_least_plan_with.2 sc len (fun _ _ _ _ _ _ us hl => match us, hl with | [_, _, _], _ => rfl) fun cdv A outer s H vs Q E hr hs => ⟨_, PSs.nox (pss_cons (ps_set (i := 3) sc.nd rfl (Or.inl rfl) (pe_c d_least_plan hr (by decide) rfl (pa_cons (pe_mk m_CardFile hr (by decide) rfl (pa_cons (pe_fld (pv 0) rfl) (pa_cons (pe_c d_with_only_code hr (by decide) rfl (pa_cons (pe_fld (pv 0) rfl) (pa_cons (pv 1) (pa_cons (pv 2) pa_nil)))) pa_nil))) pa_nil))) (pss_cons (ps_if (pt_cmpR op_isN (pv 3) pe_non (nomark _)) (pss_one (ps_ret pe_non)) pss_nil) (pss_one (ps_ret (pe_op op_cat (pe_op op_cat (pe_slice sl_list (pv 3) po_none (po_some (pv 1))) (pe_lst (pa_cons (pv 2) pa_nil))) (pe_slice sl_list (pv 3) (po_some (pe_op op_add (pv 1) pe_int)) po_none)))))), ?_⟩
  obtain ⟨⟨f, n, m, x, c⟩, ⟨hf, hx, hc⟩, i, k⟩ := hs
  obtain ⟨x0, x1, x2, rfl, h0, h1, h2⟩ := i.a3
  cases h1.val
  cases h2.val
  dsimp only at hf hx hc h0 k
  have hi := (List.getElem?_eq_some_iff.mp hx).1
  refine q_asgD (ed_callF (forcedF f n x c) (ad1 (ed_make (ad2 (ed_v (ed_file_holes (f := f) T (ed_var rfl h0))) (ed_callF (f.fields, n, m, x, c) (ad3 (ed_file_fields (f := f) T (ed_var rfl h0)) (ed_v (ev_var rfl)) (ed_v (ev_var rfl))) ⟨by have := hf.n; show f.fields.length ≤ 1000; omega, hx, hc⟩)) rfl)) (forced_ok hf hx hc)) fun y H1 e1 iy => ?_
  cases e : leastPlanI (forcedF f n x c) with
  | none =>
    rw [e] at iy k
    cases iy.val
    exact q_when (b := true) (et_is (et_isNv (x := .non) (ev_var rfl)) rfl) (fun _ H2 e2 => s_retD' (e1.trans e2) (ed_v ev_c) k) fun z => by cases z
  | some p =>
    rw [e] at iy k
    have lp : p.length = f.fields.length := by rw [leastPlan_len e]; exact setAt_length hi
    have iy' : Is K H1 y (natsD p) := iy
    refine q_when (b := false) (et_is (et_isNv (ev_var rfl)) iy'.lst_ref) (fun z => by cases z) fun _ H2 e2 => s_retD' (e1.trans e2) (EvD.eq (ed_cat (ed_cat (ed_to (i := n) (ed_var rfl (iy'.mono e2)) (ev_var rfl) (by rw [List.length_map]; omega)) (ed_lst (ad1 (ed_v (ev_var rfl))) (by simp)) ?_) (ed_from (i := n + 1) (ed_var rfl (iy'.mono e2)) (ev_is (ev_add (ev_var rfl) ev_c) rfl) (by rw [List.length_map]; omega)) ?_) ?_) k
    · rw [List.length_take, List.length_map]
      simp
      have := hf.n
      omega
    · rw [List.length_append, List.length_take, List.length_drop, List.length_map]
      simp
      have := hf.n
      omega
    · show _ = natsD (setAt p n m)
      unfold natsD setAt
      rw [List.map_append, List.map_append, List.map_take, List.map_drop]
      rfl
end least_plan_with
namespace count_with
def sp (K : PySem.W.Frag) : Sp := spF K (fun a : NX × Row × List Nat × Nat => OkX a.1 ∧ a.2.1.length ≤ 61 ∧ a.2.2.1.length = a.2.1.length ∧ a.2.2.2 < a.2.1.length) (fun a => [fieldD a.1, rowD a.2.1, natsD a.2.2.1, .i (a.2.2.2 : Nat)]) fun a => .i (countWith a.1 a.2.1 a.2.2.1 a.2.2.2 : Nat)
theorem len : ∀ vs H Q E, sp K vs H Q E → vs.length = 4 := spF_len fun _ => rfl
abbrev sS : Stmt := s_count_with
abbrev nN : List PySem.Str := ["field", "costs_behind", "counts_behind", "holes", "costs", "least", "count", "code", "cost"]
theorem sc : FnScope nN ["field", "costs_behind", "counts_behind", "holes"] (defScope sS) := ⟨rfl, rfl, rfl, by decide +kernel, rfl, by decide +kernel, by decide +kernel⟩
theorem ok (T : Txt K mg) : Cal P w K mg base 3 "count_with" (sp K) [] := by
  have d_least_of := least_of.ok (P := P) (w := w) (base := base) T
  have d_costs_with := costs_with.ok (P := P) (w := w) (base := base) T
  refine cal_of T.d_count_with.1 T.d_count_with.2 sc len (fun _ _ _ _ _ _ us hl => match us, hl with | [_, _, _, _], _ => rfl) fun cdv A outer s H vs Q E hr hs => ⟨_, PSs.nox (pss_cons (ps_set (i := 4) sc.nd rfl (Or.inl rfl) (pe_c d_costs_with hr (by decide) rfl (pa_cons (pv 0) (pa_cons (pv 1) (pa_cons (pv 3) pa_nil))))) (pss_cons (ps_set (i := 5) sc.nd rfl (Or.inl rfl) (pe_c d_least_of hr (by decide) rfl (pa_cons (pv 4) pa_nil))) (pss_cons (ps_set (i := 6) sc.nd rfl (Or.inl rfl) pe_int) (pss_cons (ps_for PassesOwn.never rfl (pi_zip (by rfl) T.f_zip (pa_cons (pe_fld (pv 0) rfl) (pa_cons (pv 4) pa_nil))) (pg_tup rfl (pgs_cons (pg_name (i := 7) sc.nd rfl (Or.inl rfl)) (pgs_cons (pg_name (i := 8) sc.nd rfl (Or.inl rfl)) pgs_nil))) (pss_one (ps_if (PW.pt (pw_and (pt_cmpR op_notN (pv 8) pe_non (nomark _)) (pw_and1 (pt_cmpR op_eq (pv 8) (pv 5) (nomark _))))) (pss_one (ps_aug (i := 6) sc.nd rfl (Or.inl rfl) (pe_ix ix_list (pv 2) (pe_op op_sub (pv 3) (pe_fld (pv 7) rfl)) (fun _ _ => rfl)) ip_add)) pss_nil))) (pss_one (ps_ret (pv 6))))))), ?_⟩
  obtain ⟨⟨x, r, ns, h⟩, ⟨hx, hr2, hns, hh⟩, i, k⟩ := hs
  obtain ⟨x0, x1, x2, x3, rfl, h0, h1, h2, h3⟩ := i.a4
  cases h3.val
  dsimp only at hx hr2 hns hh h0 h1 h2 k
  refine q_asgD (ed_callF (x, r, h) (ad3 (ed_var rfl h0) (ed_var rfl h1) (ed_v (ev_var rfl))) ⟨hx, hr2, hh⟩) fun y H1 e1 iy => ?_
  have cl : (costsWith x r h).length ≤ 40000 := by rw [costsWith_length]; have := hx.n; omega
  refine q_asg (v := optV (leastOf (costsWith x r h))) (ev_callF (costsWith x r h) (ad1 (ed_var rfl iy)) cl rfl) fun H2 e2 => ?_
  have e12 := e1.trans e2
  refine q_asg ev_c fun H3 e3 => ?_
  have iy2 : Is K H2 y (.lst ((costsWith x r h).map fun o => D.v (optV o))) := by
    rw [← rowD_o]
    exact iy.mono e2
  let g : NC → Nat := fun c => if costWith x r h c ≠ none ∧ costWith x r h c = leastOf (costsWith x r h) then ns.getD (h - c.holes) 0 else 0
  refine s_forZX (H0 := H2) e3 (xd_field_codes T (xd_var rfl (h0.mono e12))) (xd_var rfl iy2) (fun i σ' H' => Ex H2 H' ∧ ∃ c1 c2, σ' = [some x0, some x1, some x2, some (.int (h : Nat)), some y, some (optV (leastOf (costsWith x r h))), some (.int (((x.codes.map g).take i).sum : Nat)), c1, c2])
    (fun H4 e4 => ⟨e3.trans e4, none, none, rfl⟩) (fun _ _ _ q => q.1) ?_ ?_
  · rintro i c o y1 y2 σ' Ha Hb hc ho ic io ⟨ex, c1, c2, rfl⟩ ⟨Ta, ob, hT, rfl⟩
    have exn := ex.trans (Ex.new (o := ob) hT)
    cases io.val
    have hco : o = costWith x r h c := by
      have : (costsWith x r h)[i]? = some (costWith x r h c) := by unfold costsWith; rw [List.getElem?_map, hc]; rfl
      rw [this] at ho
      exact (Option.some.inj ho).symm
    have hs : ((x.codes.map g).take (i + 1)).sum = ((x.codes.map g).take i).sum + g c := take_sum (by rw [List.getElem?_map, hc]; rfl)
    subst hco
    refine s_when (b := decide (costWith x r h c ≠ none) && decide (costWith x r h c = leastOf (costsWith x r h))) (et_and (et_notN (o := costWith x r h c) (ev_var rfl)) fun _ => et_eqO (a := costWith x r h c) (b := leastOf (costsWith x r h)) (ev_var rfl) (ev_var rfl)) (fun z H4 e4 => ?_) fun z H4 e4 => ?_
    · rw [Bool.and_eq_true, decide_eq_true_eq, decide_eq_true_eq] at z
      have hle : c.holes ≤ h := by
        refine Nat.not_lt.mp fun q => z.1 ?_
        unfold costWith
        rw [if_neg (by omega)]
      have eg : g c = ns.getD (h - c.holes) 0 := if_pos z
      have hlt : h - c.holes < ns.length := by omega
      refine s_aug (f := fun i j => i + j) (a := (((x.codes.map g).take i).sum : Nat)) (b := ((ns.getD (h - c.holes) 0 : Nat) : Int)) rfl (ev_ix (i := ((h - c.holes : Nat) : Int)) (ed_var rfl ((h2.mono e12).mono (exn.trans e4))) (ev_is (ev_sub (ev_var rfl) (ed_code_holes T (ed_var rfl (ic.mono (exn.trans e4))))) (by congr 1; omega)) (atI_nat' ?_)) fun H5 e5 => ⟨(exn.trans e4).trans e5, some y1, some (optV (costWith x r h c)), ?_⟩
      · rw [List.getElem?_map, getD_some (d := 0) hlt]
        rfl
      · rw [hs, eg]
        rfl
    · have eg : g c = 0 := by
        refine if_neg fun q => ?_
        rw [decide_eq_true q.1, decide_eq_true q.2] at z
        cases z
      refine ⟨exn.trans e4, some y1, some (optV (costWith x r h c)), ?_⟩
      rw [hs, eg]
      rfl
  · rintro σ' H' ⟨ex, c1, c2, rfl⟩
    refine s_retD' (e12.trans ex) (EvD.eq (ed_v (ev_var rfl)) ?_) k
    rw [costsWith_length, Nat.min_self, List.take_of_length_le (by rw [List.length_map]; exact Nat.le_refl _)]
    rfl
end count_with
namespace counts_ahead
def sp (K : PySem.W.Frag) : Sp := spF K (fun a : NX × Row × List Nat => OkX a.1 ∧ a.2.1.length ≤ 61 ∧ a.2.2.length = a.2.1.length) (fun a => [fieldD a.1, rowD a.2.1, natsD a.2.2]) fun a => natsD (countsAhead a.1 a.2.1 a.2.2)
theorem len : ∀ vs H Q E, sp K vs H Q E → vs.length = 3 := spF_len fun _ => rfl
abbrev sS : Stmt := s_counts_ahead
abbrev nN : List PySem.Str := ["field", "costs", "counts", "holes"]
theorem sc : FnScope nN ["field", "costs", "counts"] (defScope sS) := ⟨rfl, rfl, rfl, by decide +kernel, rfl, by decide +kernel, by decide +kernel⟩
theorem ok (T : Txt K mg) : Cal P w K mg base 4 "counts_ahead" (sp K) [] := by
  have d_count_with := count_with.ok (P := P) (w := w) (base := base) T
  refine cal_of T.d_counts_ahead.1 T.d_counts_ahead.2 sc len (fun _ _ _ _ _ _ us hl => match us, hl with | [_, _, _], _ => rfl) fun cdv A outer s H vs Q E hr hs => ⟨_, PSs.nox (pss_one (ps_ret (pe_lc (own := [("holes", 3)]) (g := (gName 3)) (tt := tYes) rfl sc.nd (pi_range1 (by rfl) T.f_range (pa_cons (pe_callB call_len_seq (by rfl) T.f_len PySem.boot_len (pa_cons (pv 1) pa_nil)) pa_nil)) (blkOk_by (own := [("holes", 3)]) (N := nN) (sc := defScope sS) (by decide +kernel)) (fun _ _ _ _ _ => pg_name (i := 3) sc.nd rfl (Or.inl rfl)) (fun _ _ _ _ _ => pts_nil) (fun _ _ _ _ _ => (pe_c d_count_with hr (by decide) rfl (pa_cons (pv 0) (pa_cons (pv 1) (pa_cons (pv 2) (pa_cons (pv 3) pa_nil))))))))), ?_⟩
  obtain ⟨⟨x, r, ns⟩, ⟨hx, hr2, hns⟩, i, k⟩ := hs
  obtain ⟨x0, x1, x2, rfl, h0, h1, h2⟩ := i.a3
  dsimp only at hx hr2 hns h0 h1 h2 k
  refine s_retD (EvD.eq (ed_vals (el_lcR (n := r.length) (u := fun h => .int (countWith x r ns h : Nat)) ?_ (by omega) (fun _ => rfl) fun h H1 e1 hh => ?_)) ?_) k
  · exact ea_cons (ev_is (ev_lenD (ed_var rfl h1)) (by rw [List.length_map, List.length_map])) ea_nil
  · exact ev_callF (x, r, ns, h) (ad4 (ed_var rfl (h0.mono e1)) (ed_var rfl (h1.mono e1)) (ed_var rfl (h2.mono e1)) (ed_v (ev_var rfl))) ⟨hx, hr2, hns, hh⟩ rfl
  · rw [natsD_eq]
    unfold countsAhead
    rw [List.map_map (f := fun h => countWith x r ns h)]
    rfl
end counts_ahead
namespace least_count
def sp (K : PySem.W.Frag) : Sp := spF K (fun f : NF => OkF f) (fun f => [fileD f]) fun f => .i ((cntI f.holes f.fields).getD f.holes 0 : Nat)
theorem len : ∀ vs H Q E, sp K vs H Q E → vs.length = 1 := spF_len fun _ => rfl
theorem ones (H : Nat) : rowD (lastRow H 1) = natsD (List.replicate (H + 1) 1) := by
  rw [natsD_eq]
  unfold rowD lastRow
  rw [List.map_replicate, List.map_replicate, List.map_replicate, List.map_replicate]
  rfl
abbrev sS : Stmt := s_least_count
abbrev nN : List PySem.Str := ["file", "costs", "counts", "field"]
theorem sc : FnScope nN ["file"] (defScope sS) := ⟨rfl, rfl, rfl, by decide +kernel, rfl, by decide +kernel, by decide +kernel⟩
theorem ok (T : Txt K mg) : Cal P w K mg base 5 "least_count" (sp K) [] := by
  have d_row_ahead := row_ahead.ok (P := P) (w := w) (base := base) T
  have d_counts_ahead := counts_ahead.ok (P := P) (w := w) (base := base) T
  have d_last_row := last_row.ok (P := P) (w := w) (base := base) T
  refine cal_of T.d_least_count.1 T.d_least_count.2 sc len (fun _ _ _ _ _ _ us hl => match us, hl with | [_], _ => rfl) fun cdv A outer s H vs Q E hr hs => ⟨_, PSs.nox (pss_cons (ps_set (i := 1) sc.nd rfl (Or.inl rfl) (pe_c d_last_row hr (by decide) rfl (pa_cons (pv 0) (pa_cons pe_int pa_nil)))) (pss_cons (ps_set (i := 2) sc.nd rfl (Or.inl rfl) (pe_c d_last_row hr (by decide) rfl (pa_cons (pv 0) (pa_cons pe_int pa_nil)))) (pss_cons (ps_for PassesOwn.never rfl (pi_reversed (by rfl) T.f_reversed (pa_cons (pe_fld (pv 0) rfl) pa_nil)) (pg_name (i := 3) sc.nd rfl (Or.inl rfl)) (pss_cons (ps_set (i := 2) sc.nd rfl (Or.inl rfl) (pe_c d_counts_ahead hr (by decide) rfl (pa_cons (pv 3) (pa_cons (pv 1) (pa_cons (pv 2) pa_nil))))) (pss_one (ps_set (i := 1) sc.nd rfl (Or.inl rfl) (pe_c d_row_ahead hr (by decide) rfl (pa_cons (pv 3) (pa_cons (pv 1) pa_nil))))))) (pss_one (ps_ret (pe_ix ix_list (pv 2) (pe_fld (pv 0) rfl) (fun _ _ => rfl))))))), ?_⟩
  obtain ⟨f, hf, i, k⟩ := hs
  obtain ⟨x0, rfl, h0⟩ := i.a1
  dsimp only at hf h0 k
  have hfh := hf.h
  refine q_asgD (ed_callF (f, 0) (ad2 (ed_var rfl h0) (ed_v ev_c)) hf.h) fun y H1 e1 iy => ?_
  refine q_asgD (ed_callF (f, 1) (ad2 (ed_var rfl (h0.mono e1)) (ed_v ev_c)) hf.h) fun z H2 e2 iz => ?_
  have e12 := e1.trans e2
  refine s_forV (H0 := H2) (Ex.refl H2) (xd_file_fields T (xd_var rfl (h0.mono e12))) (fun i σ' H' => Ex H2 H' ∧ ∃ u v c1, σ' = [some x0, some u, some v, c1] ∧ Is K H' u (rowD (rowI f.holes (f.fields.drop (f.fields.length - i)))) ∧ Is K H' v (natsD (cntI f.holes (f.fields.drop (f.fields.length - i)))))
    (fun H3 e3 => ⟨e3, y, z, none, rfl, ?_, ?_⟩) (fun _ _ _ q => q.1) ?_ ?_
  · rw [Nat.sub_zero, List.drop_length, rowI_nil]
    exact iy.mono (e2.trans e3)
  · rw [Nat.sub_zero, List.drop_length]
    have iz' : Is K H2 z (rowD (lastRow f.holes 1)) := iz
    rw [ones] at iz'
    exact iz'.mono e3
  · rintro i c y2 σ' H' hi hc ic ⟨ex, u, v, c1, rfl, iu, iv⟩
    have ed : f.fields.drop (f.fields.length - (i + 1)) = c :: f.fields.drop (f.fields.length - i) := by
      have e1 : f.fields.length - (i + 1) = f.fields.length - 1 - i := by omega
      have e2 : f.fields.length - i = (f.fields.length - 1 - i) + 1 := by omega
      obtain ⟨h1, h2⟩ := List.getElem?_eq_some_iff.mp hc
      rw [e1, e2, List.drop_eq_getElem_cons h1, h2]
    have hfx : OkX c := hf.x c (List.mem_of_getElem? hc)
    rw [ed, rowI_cons]
    refine q_asgD (ed_callF (c, rowI f.holes (f.fields.drop (f.fields.length - i)), cntI f.holes (f.fields.drop (f.fields.length - i))) (ad3 (ed_var rfl (ic.mono ex)) (ed_var rfl iu) (ed_var rfl iv)) ⟨hfx, by rw [rowI_length]; omega, by rw [rowI_length, cntI_length]⟩) fun z3 H4 e4 iz3 => ?_
    refine s_asgD (ed_callF (c, rowI f.holes (f.fields.drop (f.fields.length - i))) (ad2 (ed_var rfl (ic.mono (ex.trans e4))) (ed_var rfl (iu.mono e4))) ⟨hfx, by rw [rowI_length]; omega⟩) fun z4 H5 e5 iz4 => ⟨(ex.trans e4).trans e5, z4, z3, some y2, rfl, iz4, iz3.mono e5⟩
  · rintro σ' H' ⟨ex, u, v, c1, rfl, iu, iv⟩
    rw [Nat.sub_self, List.drop_zero] at iv
    refine s_retD' (e12.trans ex) (ed_ix (i := (f.holes : Int)) (ed_var rfl iv) (ed_file_holes T (ed_var rfl (h0.mono (e12.trans ex)))) (atI_nat' ?_)) k
    rw [List.getElem?_map, getD_some (d := 0) (by rw [cntI_length]; omega)]
    rfl
end least_count
def isPlanB (fs : List NX) (r : List Int) : Bool := if r.length ≠ fs.length then false else (r.zip fs).all fun z => decide (0 ≤ z.1) && decide (z.1 < z.2.codes.length)
namespace is_plan
def sp (K : PySem.W.Frag) : Sp := spF K (fun a : NF × List Int => OkF a.1 ∧ a.2.length ≤ 40000) (fun a => [fileD a.1, intsD a.2]) fun a => .v (.bl (isPlanB a.1.fields a.2))
theorem len : ∀ vs H Q E, sp K vs H Q E → vs.length = 2 := spF_len fun _ => rfl
abbrev sS : Stmt := s_is_plan
abbrev nN : List PySem.Str := ["file", "row", "number", "field"]
theorem sc : FnScope nN ["file", "row"] (defScope sS) := ⟨rfl, rfl, rfl, by decide +kernel, rfl, by decide +kernel, by decide +kernel⟩
theorem ok (T : Txt K mg) : Cal P w K mg base 1 "is_plan" (sp K) [] := by
  refine cal_of T.d_is_plan.1 T.d_is_plan.2 sc len (fun _ _ _ _ _ _ us hl => match us, hl with | [_, _], _ => rfl) fun cdv A outer s H vs Q E hr hs => ⟨_, PSs.nox (pss_cons (ps_if (pt_cmpR op_ne (pe_callB call_len_seq (by rfl) T.f_len PySem.boot_len (pa_cons (pv 1) pa_nil)) (pe_callB call_len_seq (by rfl) T.f_len PySem.boot_len (pa_cons (pe_fld (pv 0) rfl) pa_nil)) (nomark _)) (pss_one (ps_ret pe_bl)) pss_nil) (pss_one (ps_ret (pe_callB (cr_all rfl) (by rfl) T.f_all (by decide +kernel) (pa_cons (pe_lc (own := [("number", 2), ("field", 3)]) (g := (gTup K 2 (gCons (gName 2) (gCons (gName 3) gNil)))) (tt := tYes) rfl sc.nd (pi_zip (by rfl) T.f_zip (pa_cons (pv 1) (pa_cons (pe_fld (pv 0) rfl) pa_nil))) (blkOk_by (own := [("number", 2), ("field", 3)]) (N := nN) (sc := defScope sS) (by decide +kernel)) (fun _ _ _ _ _ => pg_tup rfl (pgs_cons (pg_name (i := 2) sc.nd rfl (Or.inl rfl)) (pgs_cons (pg_name (i := 3) sc.nd rfl (Or.inl rfl)) pgs_nil))) (fun _ _ _ _ _ => pts_nil) (fun _ _ _ _ _ => (pe_chain op_le op_lt pe_int (pv 2) (pe_callB (call_len_seqK (K := K) rfl) (by rfl) T.f_len PySem.boot_len (pa_cons (pe_fldK (K := K) rfl (pv 3) rfl) pa_nil))))) pa_nil))))), ?_⟩
  obtain ⟨⟨f, r⟩, ⟨hf, hr2⟩, i, k⟩ := hs
  obtain ⟨x0, x1, rfl, h0, h1⟩ := i.a2
  dsimp only at hf hr2 h0 h1 k
  refine q_when (b := decide (r.length ≠ f.fields.length)) (et_is (et_neI (ev_is (ev_lenD (ed_var rfl h1)) (by rw [List.length_map])) (ev_is (ev_lenD (ed_file_fields T (ed_var rfl h0))) (by rw [List.length_map]))) ?_) (fun z H1 e1 => ?_) fun z H1 e1 => ?_
  · by_cases q : r.length = f.fields.length
    · rw [decide_eq_false (by omega), decide_eq_false (by omega)]
    · rw [decide_eq_true (by omega), decide_eq_true (by omega)]
  · refine s_retD' e1 (EvD.eq (ed_v ev_c) ?_) k
    show D.v (.bl false) = D.v (.bl (isPlanB f.fields r))
    unfold isPlanB
    rw [if_pos (of_decide_eq_true z)]
  · refine s_retD' e1 (EvD.eq (ed_v (ev_all (bs := (r.zip f.fields).map fun z => decide (0 ≤ z.1) && decide (z.1 < z.2.codes.length)) ?_)) ?_) k
    · rw [List.map_map]
      refine el_lcZ (l := r) (m := f.fields) (fD := fun n => D.v (.int n)) (gD := fieldD) (u := fun n x => V.bl (decide (0 ≤ n) && decide (n < x.codes.length))) (ad2 (ed_var rfl (h1.mono e1)) (ed_file_fields T (ed_var rfl (h0.mono e1)))) hr2 (fun _ _ => rfl) fun i a b x y H2 e2 ha hb ia ib => ?_
      cases ia.val
      exact ev_chainI ev_c (ev_var rfl) (ev_is (ev_lenD (ed_field_codes T (ed_var rfl ib))) (by rw [List.length_map]))
    · show D.v (.bl _) = D.v (.bl (isPlanB f.fields r))
      unfold isPlanB
      rw [if_neg (of_decide_eq_false z), List.all_map]
      rfl
end is_plan
theorem usedL_zip : ∀ (fs : List NX) (p : List Nat), ((p.zip fs).map fun z => ((Vbenaj.codeAt z.2 z.1).holes : Int)).sum = (usedL fs p : Nat)
  | [], [] => rfl
  | [], _ :: _ => rfl
  | _ :: _, [] => rfl
  | x :: fs, n :: p => by
    have ih := usedL_zip fs p
    show ((Vbenaj.codeAt x n).holes : Int) + ((p.zip fs).map fun z => ((Vbenaj.codeAt z.2 z.1).holes : Int)).sum = (((Vbenaj.codeAt x n).holes + usedL fs p : Nat) : Int)
    rw [ih]
    omega
theorem costL_zip : ∀ (fs : List NX) (p : List Nat), ((p.zip fs).map fun z => ((z.2.asked * (Vbenaj.codeAt z.2 z.1).cost : Nat) : Int)).sum = (costL fs p : Nat)
  | [], [] => rfl
  | [], _ :: _ => rfl
  | _ :: _, [] => rfl
  | x :: fs, n :: p => by
    have ih := costL_zip fs p
    show ((x.asked * (Vbenaj.codeAt x n).cost : Nat) : Int) + ((p.zip fs).map fun z => ((z.2.asked * (Vbenaj.codeAt z.2 z.1).cost : Nat) : Int)).sum = (((x.asked * (Vbenaj.codeAt x n).cost) + costL fs p : Nat) : Int)
    rw [ih]
    omega
/-- each number one of its field's codes -/
def Inn (fs : List NX) (p : List Nat) : Prop := ∀ (i : Nat) x n, fs[i]? = some x → p[i]? = some n → n < x.codes.length
namespace plan_holes
def sp (K : PySem.W.Frag) : Sp := spF K (fun a : NF × List Nat => OkF a.1 ∧ a.2.length ≤ 40000 ∧ Inn a.1.fields a.2) (fun a => [fileD a.1, natsD a.2]) fun a => .i (usedL a.1.fields a.2 : Nat)
theorem len : ∀ vs H Q E, sp K vs H Q E → vs.length = 2 := spF_len fun _ => rfl
abbrev sS : Stmt := s_plan_holes
abbrev nN : List PySem.Str := ["file", "plan", "number", "field"]
theorem sc : FnScope nN ["file", "plan"] (defScope sS) := ⟨rfl, rfl, rfl, by decide +kernel, rfl, by decide +kernel, by decide +kernel⟩
theorem ok (T : Txt K mg) : Cal P w K mg base 1 "plan_holes" (sp K) [] := by
  refine cal_of T.d_plan_holes.1 T.d_plan_holes.2 sc len (fun _ _ _ _ _ _ us hl => match us, hl with | [_, _], _ => rfl) fun cdv A outer s H vs Q E hr hs => ⟨_, PSs.nox (pss_one (ps_ret (pe_callB (cr_sum rfl) (by rfl) T.f_sum (by decide +kernel) (pa_cons (pe_lc (own := [("number", 2), ("field", 3)]) (g := (gTup K 2 (gCons (gName 2) (gCons (gName 3) gNil)))) (tt := tYes) rfl sc.nd (pi_zip (by rfl) T.f_zip (pa_cons (pv 1) (pa_cons (pe_fld (pv 0) rfl) pa_nil))) (blkOk_by (own := [("number", 2), ("field", 3)]) (N := nN) (sc := defScope sS) (by decide +kernel)) (fun _ _ _ _ _ => pg_tup rfl (pgs_cons (pg_name (i := 2) sc.nd rfl (Or.inl rfl)) (pgs_cons (pg_name (i := 3) sc.nd rfl (Or.inl rfl)) pgs_nil))) (fun _ _ _ _ _ => pts_nil) (fun _ _ _ _ _ => (pe_fldK (K := K) rfl (pe_ix (ix_listK (K := K) rfl) (pe_fldK (K := K) rfl (pv 3) rfl) (pv 2) (fun _ _ => rfl)) rfl))) pa_nil)))), ?_⟩
  obtain ⟨⟨f, p⟩, ⟨hf, hp, hin⟩, i, k⟩ := hs
  obtain ⟨x0, x1, rfl, h0, h1⟩ := i.a2
  dsimp only at hf hp hin h0 h1 k
  refine s_retD (EvD.eq (ed_v (ev_sum (ns := (p.zip f.fields).map fun z => ((Vbenaj.codeAt z.2 z.1).holes : Int)) ?_)) ?_) k
  · rw [List.map_map]
    refine el_lcZ (l := p) (m := f.fields) (fD := fun n => D.v (.int (n : Nat))) (gD := fieldD) (u := fun n x => V.int ((Vbenaj.codeAt x n).holes : Int)) (ad2 (ed_var rfl h1) (ed_file_fields T (ed_var rfl h0))) hp (fun _ _ => rfl) fun i a b x y H2 e2 ha hb ia ib => ?_
    cases ia.val
    exact ed_code_holes T (ed_code (ed_field_codes T (ed_var rfl ib)) (ev_var rfl) rfl (codeAt_get (hin i b a hb ha)))
  · rw [usedL_zip]
end plan_holes
namespace plan_cost
def sp (K : PySem.W.Frag) : Sp := spF K (fun a : NF × List Nat => OkF a.1 ∧ a.2.length ≤ 40000 ∧ Inn a.1.fields a.2) (fun a => [fileD a.1, natsD a.2]) fun a => .i (costL a.1.fields a.2 : Nat)
theorem len : ∀ vs H Q E, sp K vs H Q E → vs.length = 2 := spF_len fun _ => rfl
abbrev sS : Stmt := s_plan_cost
abbrev nN : List PySem.Str := ["file", "plan", "number", "field"]
theorem sc : FnScope nN ["file", "plan"] (defScope sS) := ⟨rfl, rfl, rfl, by decide +kernel, rfl, by decide +kernel, by decide +kernel⟩
theorem ok (T : Txt K mg) : Cal P w K mg base 2 "plan_cost" (sp K) [] := by
  have d_Field_cost_in_all := Field_cost_in_all.ok (P := P) (w := w) (base := base) T
  refine cal_of T.d_plan_cost.1 T.d_plan_cost.2 sc len (fun _ _ _ _ _ _ us hl => match us, hl with | [_, _], _ => rfl) fun cdv A outer s H vs Q E hr hs => ⟨_, PSs.nox (pss_one (ps_ret (pe_callB (cr_sum rfl) (by rfl) T.f_sum (by decide +kernel) (pa_cons (pe_lc (own := [("number", 2), ("field", 3)]) (g := (gTup K 2 (gCons (gName 2) (gCons (gName 3) gNil)))) (tt := tYes) rfl sc.nd (pi_zip (by rfl) T.f_zip (pa_cons (pv 1) (pa_cons (pe_fld (pv 0) rfl) pa_nil))) (blkOk_by (own := [("number", 2), ("field", 3)]) (N := nN) (sc := defScope sS) (by decide +kernel)) (fun _ _ _ _ _ => pg_tup rfl (pgs_cons (pg_name (i := 2) sc.nd rfl (Or.inl rfl)) (pgs_cons (pg_name (i := 3) sc.nd rfl (Or.inl rfl)) pgs_nil))) (fun _ _ _ _ _ => pts_nil) (fun _ _ _ _ _ => (pe_mt d_Field_cost_in_all hr (by decide) (pv 3) (pa_cons (pe_ix (ix_listK (K := K) rfl) (pe_fldK (K := K) rfl (pv 3) rfl) (pv 2) (fun _ _ => rfl)) pa_nil)))) pa_nil)))), ?_⟩
  obtain ⟨⟨f, p⟩, ⟨hf, hp, hin⟩, i, k⟩ := hs
  obtain ⟨x0, x1, rfl, h0, h1⟩ := i.a2
  dsimp only at hf hp hin h0 h1 k
  refine s_retD (EvD.eq (ed_v (ev_sum (ns := (p.zip f.fields).map fun z => ((z.2.asked * (Vbenaj.codeAt z.2 z.1).cost : Nat) : Int)) ?_)) ?_) k
  · rw [List.map_map]
    refine el_lcZ (l := p) (m := f.fields) (fD := fun n => D.v (.int (n : Nat))) (gD := fieldD) (u := fun n x => V.int ((x.asked * (Vbenaj.codeAt x n).cost : Nat) : Int)) (ad2 (ed_var rfl h1) (ed_file_fields T (ed_var rfl h0))) hp (fun _ _ => rfl) fun i a b x y H2 e2 ha hb ia ib => ?_
    cases ia.val
    exact (ed_methF (b, Vbenaj.codeAt b a) (ed_var rfl ib) rfl (ad1 (ed_code (ed_field_codes T (ed_var rfl ib)) (ev_var rfl) rfl (codeAt_get (hin i b a hb ha)))) (hf.x b (List.mem_of_getElem? hb)) rfl).ev
  · rw [costL_zip]
end plan_cost
namespace plan_told
def sp (K : PySem.W.Frag) : Sp := spF K (fun a : NF × Option (List Nat) => OkF a.1 ∧ ∀ p, a.2 = some p → p.length ≤ 1000 ∧ Inn a.1.fields p) (fun a => [fileD a.1, planD a.2]) fun a => intsD (planTold a.1.fields a.2)
theorem len : ∀ vs H Q E, sp K vs H Q E → vs.length = 2 := spF_len fun _ => rfl
abbrev sS : Stmt := s_plan_told
abbrev nN : List PySem.Str := ["file", "plan"]
theorem sc : FnScope nN ["file", "plan"] (defScope sS) := ⟨rfl, rfl, rfl, by decide +kernel, rfl, by decide +kernel, by decide +kernel⟩
theorem ok (T : Txt K mg) : Cal P w K mg base 3 "plan_told" (sp K) [] := by
  have d_plan_cost := plan_cost.ok (P := P) (w := w) (base := base) T
  refine cal_of T.d_plan_told.1 T.d_plan_told.2 sc len (fun _ _ _ _ _ _ us hl => match us, hl with | [_, _], _ => rfl) fun cdv A outer s H vs Q E hr hs => ⟨_, PSs.nox (pss_cons (ps_if (pt_cmpR op_isN (pv 1) pe_non (nomark _)) (pss_one (ps_ret (pe_lst (pa_cons pe_int pa_nil)))) pss_nil) (pss_one (ps_ret (pe_op op_cat (pe_lst (pa_cons pe_int (pa_cons (pe_c d_plan_cost hr (by decide) rfl (pa_cons (pv 0) (pa_cons (pv 1) pa_nil))) (pa_cons (pe_callB call_len_seq (by rfl) T.f_len PySem.boot_len (pa_cons (pv 1) pa_nil)) pa_nil)))) (pv 1))))), ?_⟩
  obtain ⟨⟨f, o⟩, ⟨hf, ho⟩, i, k⟩ := hs
  obtain ⟨x0, x1, rfl, h0, h1⟩ := i.a2
  dsimp only at hf ho h0 h1 k
  cases o with
  | none =>
    cases h1.val
    exact q_when (b := true) (et_is (et_isNv (x := .non) (ev_var rfl)) rfl) (fun _ H1 e1 => s_retD' e1 (ed_lst (ad1 (ed_v ev_c)) (by simp)) k) fun z => by cases z
  | some p =>
    obtain ⟨hp, hin⟩ := ho p rfl
    have h1' : Is K H x1 (natsD p) := h1
    refine q_when (b := false) (et_is (et_isNv (ev_var rfl)) h1'.lst_ref) (fun z => by cases z) fun _ H1 e1 => ?_
    have j0 := h0.mono e1
    have j1 := h1'.mono e1
    refine s_retD' e1 (EvD.eq (ed_cat (ed_lst (ad3 (ed_v ev_c) (ed_callF (f, p) (ad2 (ed_var rfl j0) (ed_var rfl j1)) ⟨hf, by show p.length ≤ 40000; omega, hin⟩) (ed_v (ev_lenD (ed_var rfl j1)))) (by simp)) (ed_var rfl j1) ?_) ?_) k
    · rw [List.length_map]
      show 3 + _ ≤ _
      omega
    · show _ = intsD (1 :: (costL f.fields p : Int) :: (p.length : Int) :: p.map fun (n : Nat) => (n : Int))
      unfold intsD
      rw [List.map_cons, List.map_cons, List.map_cons, List.map_map, List.length_map]
      rfl
end plan_told
namespace costs_told
def sp (K : PySem.W.Frag) : Sp := spF K (fun a : Row => a.length ≤ 40000) (fun a => [rowD a]) fun a => intsD (a.map fun o => o.getD (-1))
theorem len : ∀ vs H Q E, sp K vs H Q E → vs.length = 1 := spF_len fun _ => rfl
abbrev sS : Stmt := s_costs_told
abbrev nN : List PySem.Str := ["costs", "cost"]
theorem sc : FnScope nN ["costs"] (defScope sS) := ⟨rfl, rfl, rfl, by decide +kernel, rfl, by decide +kernel, by decide +kernel⟩
theorem ok (T : Txt K mg) : Cal P w K mg base 1 "costs_told" (sp K) [] := by
  refine cal_of T.d_costs_told.1 T.d_costs_told.2 sc len (fun _ _ _ _ _ _ us hl => match us, hl with | [_], _ => rfl) fun cdv A outer s H vs Q E hr hs => ⟨_, PSs.nox (pss_one (ps_ret (pe_lc (own := [("cost", 1)]) (g := (gName 1)) (tt := tYes) rfl sc.nd (pi_list (pv 0)) (blkOk_by (own := [("cost", 1)]) (N := nN) (sc := defScope sS) (by decide +kernel)) (fun _ _ _ _ _ => pg_name (i := 1) sc.nd rfl (Or.inl rfl)) (fun _ _ _ _ _ => pts_nil) (fun _ _ _ _ _ => (pe_ifExp (pt_cmpR op_isN (pv 1) pe_non (nomark _)) (pe_un un_neg pe_int) (pv 1)))))), ?_⟩
  obtain ⟨r, hr, i, k⟩ := hs
  obtain ⟨x0, rfl, h0⟩ := i.a1
  dsimp only at hr h0 k
  rw [rowD_o] at h0
  refine s_retD (EvD.eq (ed_vals (el_lcM (l := r) (fD := fun o => .v (optV o)) (u := fun o => V.int (o.getD (-1))) (ed_var rfl h0) hr (fun _ => rfl) fun i a x H1 e1 e2 e3 => ?_)) ?_) k
  · cases e3.val
    refine ev_if (et_isN (o := a) (ev_var rfl)) (fun z => ?_) fun z => ?_
    · rw [of_decide_eq_true z]
      exact ev_m1
    · cases a with
      | none => cases z
      | some n => exact ev_var rfl
  · rw [intsD_eq, List.map_map (f := fun o => Option.getD o (-1))]
    rfl
end costs_told
end
end Nt

set_option maxHeartbeats 4000000
namespace Nt
open PySem PySem.Spec PyProof.Rows L2 Evl
open C8 (Cal Mak Met pe_c pe_mk pe_mt pe_mt0 pe_gc)
/-! mirrors -/
def isLabelsB (f : NF) (d : List Int) : Bool := if d.length ≠ (f.fields.length + 1) * (f.holes + 1) then false else d.all fun z => decide ((if z < 0 then -z else z) ≤ 1000000000000)
def labelRows (f : NF) (d : List Int) : List (List Int) := (List.range (f.fields.length + 1)).map fun i => (d.drop (i * (f.holes + 1))).take (f.holes + 1)
def intRow (l : List Int) : Row := l.map some
def greatestRows (H : Nat) : List NX → List Row → List Row
  | x :: fs, r :: rs => rowAhead x r :: greatestRows H fs rs
  | _, _ => [lastRow H 0]
def cheapestI (x : NX) (p : Nat) : Option Int := leastOf (x.codes.map fun c => some ((x.asked * c.cost + p * c.holes : Nat) : Int))
def boundI (f : NF) (p : Nat) : Option Int := if none ∈ f.fields.map (fun x => cheapestI x p) then none else some ((f.fields.map fun x => (cheapestI x p).getD 0).sum - (p * f.holes : Nat))
theorem optV_in (o : Option Int) (l : Row) : inV (optV o) (l.map optV) = decide (o ∈ l) := by
  unfold inV
  induction l with
  | nil => simp
  | cons a l ih =>
    rw [List.map_cons, List.any_cons, ih, eqV_opt]
    by_cases h : a = o
    · subst h; simp
    · have h2 : ¬ o = a := fun q => h q.symm
      simp [h, h2]
section
variable {P : Program} {w : World} {K : PySem.W.Frag} {mg : PySem.Str → Option Value} {base : Heap}
namespace least_priced
def sp (K : PySem.W.Frag) : Sp := spF K (fun a : NX × Nat => OkX a.1 ∧ a.2 ≤ 1000000001) (fun a => [fieldD a.1, .i (a.2 : Nat)]) fun a => .v (optV (cheapestI a.1 a.2))
theorem len : ∀ vs H Q E, sp K vs H Q E → vs.length = 2 := spF_len fun _ => rfl
abbrev sS : Stmt := s_least_priced
abbrev nN : List PySem.Str := ["field", "price", "code"]
theorem sc : FnScope nN ["field", "price"] (defScope sS) := ⟨rfl, rfl, rfl, by decide +kernel, rfl, by decide +kernel, by decide +kernel⟩
theorem ok (T : Txt K mg) : Cal P w K mg base 2 "least_priced" (sp K) [] := by
  have d_least_of := least_of.ok (P := P) (w := w) (base := base) T
  have d_Field_cost_in_all := Field_cost_in_all.ok (P := P) (w := w) (base := base) T
  refine cal_of T.d_least_priced.1 T.d_least_priced.2 sc len (fun _ _ _ _ _ _ us hl => match us, hl with | [_, _], _ => rfl) fun cdv A outer s H vs Q E hr hs => ⟨_, PSs.nox (pss_one (ps_ret (pe_c d_least_of hr (by decide) rfl (pa_cons (pe_lc (own := [("code", 2)]) (g := (gName 2)) (tt := tYes) rfl sc.nd (pi_list (pe_fld (pv 0) rfl)) (blkOk_by (own := [("code", 2)]) (N := nN) (sc := defScope sS) (by decide +kernel)) (fun _ _ _ _ _ => pg_name (i := 2) sc.nd rfl (Or.inl rfl)) (fun _ _ _ _ _ => pts_nil) (fun _ _ _ _ _ => (pe_op op_add (pe_mt d_Field_cost_in_all hr (by decide) (pv 0) (pa_cons (pv 2) pa_nil)) (pe_op op_mul (pv 1) (pe_fldK (K := K) rfl (pv 2) rfl))))) pa_nil)))), ?_⟩
  obtain ⟨⟨x, p⟩, ⟨hx, hp⟩, i, k⟩ := hs
  obtain ⟨x0, x1, rfl, h0, h1⟩ := i.a2
  cases h1.val
  dsimp only at hx hp h0 k
  refine s_retD (ed_v (ev_callF (x.codes.map fun c => some ((x.asked * c.cost + p * c.holes : Nat) : Int)) (ad1 (EvD.eq (ed_vals (el_lcM (l := x.codes) (fD := codeD) (u := fun c => V.int ((x.asked * c.cost + p * c.holes : Nat) : Int)) (ed_field_codes T (ed_var rfl h0)) (by have := hx.n; omega) (fun _ => rfl) fun i c y H1 e1 hc ic => ?_)) ?_)) ?_ rfl)) k
  · have oc := hx.c c (List.mem_of_getElem? hc)
    have hh := oc.h
    refine ev_is (ev_add (ed_methF (x, c) (ed_var rfl (h0.mono e1)) rfl (ad1 (ed_var rfl ic)) hx rfl).ev (ev_op (ev_var rfl) (ed_code_holes T (ed_var rfl ic)) (rv_I ?_))) ?_
    · exact .inl ⟨by omega, by omega⟩
    · show V.int _ = V.int _
      congr 1
  · unfold rowD
    rw [List.map_map (f := fun c => some _)]
    rfl
  · rw [List.length_map]
    have := hx.n
    omega
end least_priced
namespace bound
def sp (K : PySem.W.Frag) : Sp := spF K (fun a : NF × Nat => OkF a.1 ∧ a.2 ≤ 1000000001) (fun a => [fileD a.1, .i (a.2 : Nat)]) fun a => .v (optV (boundI a.1 a.2))
theorem len : ∀ vs H Q E, sp K vs H Q E → vs.length = 2 := spF_len fun _ => rfl
abbrev sS : Stmt := s_bound
abbrev nN : List PySem.Str := ["file", "price", "least", "field"]
theorem sc : FnScope nN ["file", "price"] (defScope sS) := ⟨rfl, rfl, rfl, by decide +kernel, rfl, by decide +kernel, by decide +kernel⟩
theorem ok (T : Txt K mg) : Cal P w K mg base 3 "bound" (sp K) [] := by
  have d_least_priced := least_priced.ok (P := P) (w := w) (base := base) T
  refine cal_of T.d_bound.1 T.d_bound.2 sc len (fun _ _ _ _ _ _ us hl => match us, hl with | [_, _], _ => rfl) fun cdv A outer s H vs Q E hr hs => ⟨_, PSs.nox (pss_cons (ps_setLc (i := 2) (own := [("field", 3)]) (g := (gName 3)) (tt := tYes) rfl sc.nd rfl rfl (sw_true rfl rfl rfl (by decide +kernel)) (pi_list (pe_fld (pv 0) rfl)) (blkOk_by (own := [("field", 3)]) (N := nN) (sc := defScope sS) (by decide +kernel)) (fun _ _ _ _ _ => pg_name (i := 3) sc.nd rfl (Or.inl rfl)) (fun _ _ _ _ _ => pts_nil) (fun _ _ _ _ _ => (pe_c d_least_priced hr (by decide) rfl (pa_cons (pv 3) (pa_cons (pv 1) pa_nil))))) (pss_cons (ps_if (pt_cmpR op_in_seq pe_non (pv 2) rfl) (pss_one (ps_ret pe_non)) pss_nil) (pss_one (ps_ret (pe_op op_sub (pe_callB (cr_sum rfl) (by rfl) T.f_sum (by decide +kernel) (pa_cons (pv 2) pa_nil)) (pe_op op_mul (pv 1) (pe_fld (pv 0) rfl))))))), ?_⟩
  obtain ⟨⟨f, p⟩, ⟨hf, hp⟩, i, k⟩ := hs
  obtain ⟨x0, x1, rfl, h0, h1⟩ := i.a2
  cases h1.val
  dsimp only at hf hp h0 k
  have hfh := hf.h
  refine q_asgL (el_lcM (l := f.fields) (fD := fieldD) (u := fun x => optV (cheapestI x p)) (ed_file_fields T (ed_var rfl h0)) (by have := hf.n; omega) (fun _ => rfl) fun i x y H1 e1 hx ix => ?_) fun a H1 ha e1 hl => ?_
  · exact ev_callF (x, p) (ad2 (ed_var rfl ix) (ed_v (ev_var rfl))) ⟨hf.x x (List.mem_of_getElem? hx), hp⟩ rfl
  · have em : f.fields.map (fun x => optV (cheapestI x p)) = (f.fields.map fun x => cheapestI x p).map optV := by rw [List.map_map]; rfl
    rw [em] at hl
    have hall : ((f.fields.map fun x => cheapestI x p).map optV).all flatV = true := by
      rw [List.all_map, List.all_eq_true]
      intro z _
      cases z <;> rfl
    refine q_when (b := decide (none ∈ f.fields.map fun x => cheapestI x p)) (et_is (et_test (ev_op (x := .non) ev_c (ev_var rfl) (rv_isL (sq_of hl) rfl hall))) (optV_in none _)) (fun z H2 e2 => ?_) fun z H2 e2 => ?_
    · refine s_retD' (e1.trans e2) (EvD.eq (ed_v ev_c) ?_) k
      unfold boundI
      rw [if_pos (of_decide_eq_true z)]
      rfl
    · have z2 := of_decide_eq_false z
      have en : (f.fields.map fun x => cheapestI x p).map optV = (f.fields.map fun x => (cheapestI x p).getD 0).map V.int := by
        rw [List.map_map, List.map_map]
        refine List.map_congr_left fun x hx => ?_
        show optV (cheapestI x p) = V.int ((cheapestI x p).getD 0)
        cases q : cheapestI x p with
        | none => exact absurd (List.mem_map.mpr ⟨x, hx, q⟩) z2
        | some n => rfl
      rw [en] at hl
      refine s_retD' (e1.trans e2) (EvD.eq (ed_v (ev_sub (ev_sum_of (ev_var rfl) (e2 _ _ hl)) (ev_op (ev_var rfl) (ed_file_holes T (ed_var rfl (h0.mono (e1.trans e2)))) (rv_I (.inl ⟨by omega, by omega⟩))))) ?_) k
      unfold boundI
      rw [if_neg z2]
      rfl
end bound
end
end Nt

set_option maxHeartbeats 4000000
namespace Nt
open PySem PySem.Spec PyProof.Rows L2 Evl
open C8 (Cal Mak Met pe_c pe_mk pe_mt pe_mt0 pe_gc)
/-! mirrors -/
/-- the first number at which g fails, from p on, n at most -/
def firstF (g : Nat → Bool) : Nat → Nat → Nat
  | 0, p => p
  | n + 1, p => if g p then firstF g n (p + 1) else p
theorem firstF_is (g : Nat → Bool) : ∀ (n p q : Nat), p ≤ q → q ≤ p + n → (∀ r, p ≤ r → r < q → g r = true) → (q < p + n → g q = false) → firstF g n p = q
  | 0, p, q, h1, h2, _, _ => by show p = q; omega
  | n + 1, p, q, h1, h2, h3, h4 => by
    show (if g p then firstF g n (p + 1) else p) = q
    by_cases h : p = q
    · subst h
      rw [h4 (by omega)]
      rfl
    · rw [h3 p (Nat.le_refl _) (by omega)]
      exact firstF_is g n (p + 1) q (by omega) (by omega) (fun r a b => h3 r (by omega) b) fun a => h4 (by omega)
def boundV (f : NF) (p : Nat) : Int := (boundI f p).getD 0
def rises (f : NF) (p : Nat) : Bool := decide (boundV f p < boundV f (p + 1))
def bestI (f : NF) : Nat := firstF (rises f) 1000000000 0
def maxP (i j : Int) : Int := if j > i then j else i
def minP (i j : Int) : Int := if j < i then j else i
def leastAsked (dearer saved : Int) : Int := if dearer < 0 then -(saved / -dearer) else if 0 ≤ saved then 0 else 1001
def greatestAsked (dearer saved : Int) : Int := if 0 < dearer then saved / dearer else 1000
def besideI (f : NF) (i : Nat) (x : NX) : Row := costsWith { x with asked := 0 } (rowI f.holes (cutAt f.fields i)) f.holes
def askStep (k b : Int) (e : Int × Int) (z : NC × Option Int) : Int × Int := match z.2 with
  | none => e
  | some cost => (maxP e.1 (leastAsked (k - z.1.cost) (cost - b)), minP e.2 (greatestAsked (k - z.1.cost) (cost - b)))
def askI (x : NX) (c : Nat) (beside : Row) : Option (Int × Int) := match beside.getD c none with
  | none => none
  | some b =>
    let e := (x.codes.zip beside).foldl (askStep ((Vbenaj.codeAt x c).cost : Int) b) (0, 1000)
    if e.1 ≤ e.2 then some e else none
def outdoesB (l : List NC) (o n : Nat) : Bool := match l[o]?, l[n]? with
  | some b, some w => if w.holes < b.holes ∨ w.cost < b.cost then false else decide (b.holes < w.holes) || (decide (b.cost < w.cost) || decide (o < n))
  | _, _ => false
def idleI (x : NX) : List Nat := (List.range x.codes.length).filter fun n => (List.range x.codes.length).any fun o => outdoesB x.codes o n
def withoutF (f : NF) (i : Nat) : NF := { f with fields := cutAt f.fields i }
theorem cutAt_ok {f : NF} (hf : OkF f) (i : Nat) : OkF (withoutF f i) := by
  refine ⟨hf.h, ?_, fun x hx => ?_⟩
  · show (cutAt f.fields i).length ≤ 10
    have := hf.n
    unfold cutAt
    rw [List.length_append, List.length_take, List.length_drop]
    omega
  · have hx : x ∈ cutAt f.fields i := hx
    unfold cutAt at hx
    rcases List.mem_append.mp hx with h | h
    · exact hf.x x (List.mem_of_mem_take h)
    · exact hf.x x (List.mem_of_mem_drop h)
theorem setAt_get {α : Type} {l : List α} {i : Nat} {y : α} (h : i < l.length) : (setAt l i y)[i]? = some y := by
  unfold setAt
  rw [List.append_assoc, List.getElem?_append_right (by rw [List.length_take]; omega), List.length_take, Nat.min_eq_left (Nat.le_of_lt h), Nat.sub_self]
  rfl
section
variable {P : Program} {w : World} {K : PySem.W.Frag} {mg : PySem.Str → Option Value} {base : Heap}
namespace best_price
def sp (K : PySem.W.Frag) : Sp := spF K (fun f : NF => OkF f ∧ (∀ p, ∃ b, boundI f p = some b) ∧ ∀ q r, q ≤ r → rises f r = true → rises f q = true) (fun f => [fileD f]) fun f => .i (bestI f : Nat)
theorem len : ∀ vs H Q E, sp K vs H Q E → vs.length = 1 := spF_len fun _ => rfl
abbrev sS : Stmt := s_best_price
abbrev nN : List PySem.Str := ["file", "least", "greatest", "middle"]
theorem sc : FnScope nN ["file"] (defScope sS) := ⟨rfl, rfl, rfl, by decide +kernel, rfl, by decide +kernel, by decide +kernel⟩
theorem ok (T : Txt K mg) : Cal P w K mg base 4 "best_price" (sp K) [] := by
  have d_bound := bound.ok (P := P) (w := w) (base := base) T
  refine cal_of T.d_best_price.1 T.d_best_price.2 sc len (fun _ _ _ _ _ _ us hl => match us, hl with | [_], _ => rfl) fun cdv A outer s H vs Q E hr hs => ⟨_, PSs.nox (pss_cons (ps_set (i := 1) sc.nd rfl (Or.inl rfl) pe_int) (pss_cons (ps_set (i := 2) sc.nd rfl (Or.inl rfl) (pe_gc rfl T.c_MOST_PRICE)) (pss_cons (ps_while PassesOwn.never (pt_cmpR op_lt (pv 1) (pv 2) (nomark _)) (pss_cons (ps_set (i := 3) sc.nd rfl (Or.inl rfl) (pe_op op_fdiv (pe_op op_add (pv 1) (pv 2)) pe_int)) (pss_one (ps_if (pt_cmpR op_gt (pe_c d_bound hr (by decide) rfl (pa_cons (pv 0) (pa_cons (pe_op op_add (pv 3) pe_int) pa_nil))) (pe_c d_bound hr (by decide) rfl (pa_cons (pv 0) (pa_cons (pv 3) pa_nil))) (nomark _)) (pss_one (ps_set (i := 1) sc.nd rfl (Or.inl rfl) (pe_op op_add (pv 3) pe_int))) (pss_one (ps_set (i := 2) sc.nd rfl (Or.inl rfl) (pv 3))))))) (pss_one (ps_ret (pv 1)))))), ?_⟩
  obtain ⟨f, ⟨hf, hb, hr1⟩, i, k⟩ := hs
  obtain ⟨x0, rfl, h0⟩ := i.a1
  dsimp only at hf hb hr1 h0 k
  refine q_asg ev_c fun H1 e1 => ?_
  refine q_asg ev_c fun H2 e2 => ?_
  have e12 := e1.trans e2
  refine q_while (fun m σ' H' => Ex H H' ∧ ∃ (lo hi : Nat) (c : Option V), m = hi - lo ∧ lo ≤ hi ∧ hi ≤ 1000000000 ∧ σ' = [some x0, some (.int (lo : Nat)), some (.int (hi : Nat)), c] ∧ (∀ q, q < lo → rises f q = true) ∧ (hi < 1000000000 → rises f hi = false)) 1000000000
    ⟨e12, 0, 1000000000, none, rfl, by omega, by omega, rfl, fun q h => by omega, fun h => by omega⟩ ?_
  rintro m σ' H' ⟨ex, lo, hi, c, rfl, hl, hh, rfl, a1, a2⟩
  refine ⟨decide ((lo : Int) < (hi : Int)), et_lt (ev_var rfl) (ev_var rfl), fun z H3 e3 => ?_, fun z H3 e3 => ?_⟩
  · have hlt : lo < hi := by have := of_decide_eq_true z; omega
    refine ⟨fun σ2 H2 => ∃ m', m' < hi - lo ∧ Ex H H2 ∧ ∃ (lo hi : Nat) (c : Option V), m' = hi - lo ∧ lo ≤ hi ∧ hi ≤ 1000000000 ∧ σ2 = [some x0, some (.int (lo : Nat)), some (.int (hi : Nat)), c] ∧ (∀ q, q < lo → rises f q = true) ∧ (hi < 1000000000 → rises f hi = false), fun σ2 H2 ⟨m', h1, h2⟩ => ⟨m', h1, h2⟩, ?_⟩
    have ex3 := ex.trans e3
    refine q_asg (v := .int ((lo + hi) / 2 : Nat)) (ev_is (ev_div (ev_add (ev_var rfl) (ev_var rfl)) ev_c (by decide) (by decide)) (by congr 1)) fun H4 e4 => ?_
    have ex4 := ex3.trans e4
    obtain ⟨b1, hb1⟩ := hb ((lo + hi) / 2)
    obtain ⟨b2, hb2⟩ := hb ((lo + hi) / 2 + 1)
    have hm : (lo + hi) / 2 < hi := by omega
    have hm2 : lo ≤ (lo + hi) / 2 := by omega
    have er : rises f ((lo + hi) / 2) = decide (b1 < b2) := by
      unfold rises boundV
      rw [hb1, hb2]
      rfl
    refine s_if (b := decide (b1 < b2)) (et_gt (i := b2) (j := b1) (ev_callF (f, (lo + hi) / 2 + 1) (ad2 (ed_var rfl (h0.mono ex4)) (ed_v (ev_is (ev_add (ev_var rfl) ev_c) rfl))) ⟨hf, by omega⟩ (by rw [hb2]; rfl)) (ev_callF (f, (lo + hi) / 2) (ad2 (ed_var rfl (h0.mono ex4)) (ed_v (ev_var rfl))) ⟨hf, by omega⟩ (by rw [hb1]; rfl))) (fun z2 H5 e5 => ?_) fun z2 H5 e5 => ?_
    · refine s_asg (v := .int (((lo + hi) / 2 + 1 : Nat) : Int)) (ev_is (ev_add (ev_var rfl) ev_c) rfl) fun H6 e6 => ⟨hi - ((lo + hi) / 2 + 1), by omega, (ex4.trans e5).trans e6, (lo + hi) / 2 + 1, hi, _, rfl, by omega, hh, rfl, fun q hq => ?_, a2⟩
      exact hr1 q _ (by omega) (er.trans z2)
    · refine s_asg (ev_var rfl) fun H6 e6 => ⟨(lo + hi) / 2 - lo, by omega, (ex4.trans e5).trans e6, lo, (lo + hi) / 2, _, rfl, hm2, by omega, rfl, a1, fun _ => er.trans z2⟩
  · have he : lo = hi := by have := of_decide_eq_false z; omega
    subst he
    refine s_retD' (ex.trans e3) (EvD.eq (ed_v (ev_var rfl)) ?_) k
    unfold bestI
    rw [firstF_is (rises f) 1000000000 0 lo (Nat.zero_le _) (by omega) (fun r _ h => a1 r h) fun h => a2 (by omega)]
end best_price
namespace least_asked
def sp (K : PySem.W.Frag) : Sp := spF K (fun a : Int × Int => -1000000 ≤ a.1 ∧ a.1 ≤ 1000000) (fun a => [.i a.1, .i a.2]) fun a => .i (leastAsked a.1 a.2)
theorem len : ∀ vs H Q E, sp K vs H Q E → vs.length = 2 := spF_len fun _ => rfl
abbrev sS : Stmt := s_least_asked
abbrev nN : List PySem.Str := ["dearer", "saved"]
theorem sc : FnScope nN ["dearer", "saved"] (defScope sS) := ⟨rfl, rfl, rfl, by decide +kernel, rfl, by decide +kernel, by decide +kernel⟩
theorem ok (T : Txt K mg) : Cal P w K mg base 1 "least_asked" (sp K) [] := by
  refine cal_of T.d_least_asked.1 T.d_least_asked.2 sc len (fun _ _ _ _ _ _ us hl => match us, hl with | [_, _], _ => rfl) fun cdv A outer s H vs Q E hr hs => ⟨_, PSs.nox (pss_cons (ps_if (pt_cmpR op_lt (pv 0) pe_int (nomark _)) (pss_one (ps_ret (pe_un un_neg (pe_op op_fdiv (pv 1) (pe_un un_neg (pv 0)))))) pss_nil) (pss_one (ps_ret (pe_ifExp (pt_cmpR op_ge (pv 1) pe_int (nomark _)) pe_int (pe_op op_add (pe_gc rfl T.c_MOST_ASKED) pe_int))))), ?_⟩
  obtain ⟨⟨d, sv⟩, ⟨h1, h2⟩, i, k⟩ := hs
  obtain ⟨x0, x1, rfl, i0, i1⟩ := i.a2
  cases i0.val
  cases i1.val
  dsimp only at h1 h2 k
  refine q_when (et_lt (ev_var rfl) ev_c) (fun z H1 e1 => ?_) fun z H1 e1 => ?_
  · have z2 := of_decide_eq_true z
    refine s_retD' e1 (EvD.eq (ed_v (ev_neg (ev_div (ev_var rfl) (ev_neg (ev_var rfl)) (by omega) (by omega)))) ?_) k
    unfold leastAsked
    rw [if_pos z2]
  · have z2 := of_decide_eq_false z
    refine s_retD' e1 (EvD.eq (ed_v (v := .int (if 0 ≤ sv then 0 else 1001)) (ev_if (et_ge (ev_var rfl) ev_c) (fun q => ?_) fun q => ?_)) ?_) k
    · rw [if_pos (of_decide_eq_true q)]
      exact ev_c
    · rw [if_neg (of_decide_eq_false q)]
      exact ev_is (ev_add ev_c ev_c) rfl
    · unfold leastAsked
      rw [if_neg z2]
end least_asked
namespace greatest_asked
def sp (K : PySem.W.Frag) : Sp := spF K (fun a : Int × Int => -1000000 ≤ a.1 ∧ a.1 ≤ 1000000) (fun a => [.i a.1, .i a.2]) fun a => .i (greatestAsked a.1 a.2)
theorem len : ∀ vs H Q E, sp K vs H Q E → vs.length = 2 := spF_len fun _ => rfl
abbrev sS : Stmt := s_greatest_asked
abbrev nN : List PySem.Str := ["dearer", "saved"]
theorem sc : FnScope nN ["dearer", "saved"] (defScope sS) := ⟨rfl, rfl, rfl, by decide +kernel, rfl, by decide +kernel, by decide +kernel⟩
theorem ok (T : Txt K mg) : Cal P w K mg base 1 "greatest_asked" (sp K) [] := by
  refine cal_of T.d_greatest_asked.1 T.d_greatest_asked.2 sc len (fun _ _ _ _ _ _ us hl => match us, hl with | [_, _], _ => rfl) fun cdv A outer s H vs Q E hr hs => ⟨_, PSs.nox (pss_one (ps_ret (pe_ifExp (pt_cmpR op_gt (pv 0) pe_int (nomark _)) (pe_op op_fdiv (pv 1) (pv 0)) (pe_gc rfl T.c_MOST_ASKED)))), ?_⟩
  obtain ⟨⟨d, sv⟩, ⟨h1, h2⟩, i, k⟩ := hs
  obtain ⟨x0, x1, rfl, i0, i1⟩ := i.a2
  cases i0.val
  cases i1.val
  dsimp only at h1 h2 k
  refine s_retD (ed_v (v := .int (greatestAsked d sv)) (ev_if (et_gt (ev_var rfl) ev_c) (fun q => ?_) fun q => ?_)) k
  · have q2 := of_decide_eq_true q
    unfold greatestAsked
    rw [if_pos q2]
    exact ev_div (ev_var rfl) (ev_var rfl) q2 (by omega)
  · unfold greatestAsked
    rw [if_neg (of_decide_eq_false q)]
    exact ev_c
end greatest_asked
namespace costs_beside
def sp (K : PySem.W.Frag) : Sp := spF K (fun a : NF × Nat × NX => OkF a.1 ∧ a.1.fields[a.2.1]? = some a.2.2) (fun a => [fileD a.1, .i (a.2.1 : Nat)]) fun a => rowD (besideI a.1 a.2.1 a.2.2)
theorem len : ∀ vs H Q E, sp K vs H Q E → vs.length = 2 := spF_len fun _ => rfl
abbrev sS : Stmt := s_costs_beside
abbrev nN : List PySem.Str := ["file", "i", "others"]
theorem sc : FnScope nN ["file", "i"] (defScope sS) := ⟨rfl, rfl, rfl, by decide +kernel, rfl, by decide +kernel, by decide +kernel⟩
theorem ok (T : Txt K mg) : Cal P w K mg base 6 "costs_beside" (sp K) [] := by
  have d_costs_with := costs_with.ok (P := P) (w := w) (base := base) T
  have d_with_asked := with_asked.ok (P := P) (w := w) (base := base) T
  have d_curve := curve.ok (P := P) (w := w) (base := base) T
  have m_CardFile := CardFile_init.ok (P := P) (w := w) (base := base) T
  have d_without_field := without_field.ok (P := P) (w := w) (base := base) T
  refine cal_of T.d_costs_beside.1 T.d_costs_beside.2 sc len (fun _ _ _ _ _ _ us hl => match us, hl with | [_, _], _ => rfl) fun cdv A outer s H vs Q E hr hs => ⟨_, PSs.nox (pss_cons (ps_set (i := 2) sc.nd rfl (Or.inl rfl) (pe_c d_curve hr (by decide) rfl (pa_cons (pe_mk m_CardFile hr (by decide) rfl (pa_cons (pe_fld (pv 0) rfl) (pa_cons (pe_c d_without_field hr (by decide) rfl (pa_cons (pe_fld (pv 0) rfl) (pa_cons (pv 1) pa_nil))) pa_nil))) pa_nil))) (pss_one (ps_ret (pe_c d_costs_with hr (by decide) rfl (pa_cons (pe_ix ix_list (pe_c d_with_asked hr (by decide) rfl (pa_cons (pe_fld (pv 0) rfl) (pa_cons (pv 1) (pa_cons pe_int pa_nil)))) (pv 1) (fun _ _ => rfl)) (pa_cons (pv 2) (pa_cons (pe_fld (pv 0) rfl) pa_nil))))))), ?_⟩
  obtain ⟨⟨f, n, x⟩, ⟨hf, hx⟩, i, k⟩ := hs
  obtain ⟨x0, x1, rfl, h0, h1⟩ := i.a2
  cases h1.val
  dsimp only at hf hx h0 k
  have hi := (List.getElem?_eq_some_iff.mp hx).1
  have hn := hf.n
  have hh := hf.h
  have ox := hf.x x (List.mem_of_getElem? hx)
  refine q_asgD (ed_callF (withoutF f n) (ad1 (ed_make (ad2 (ed_v (ed_file_holes (f := f) T (ed_var rfl h0))) (ed_callF (f.fields, n) (ad2 (ed_file_fields (f := f) T (ed_var rfl h0)) (ed_v (ev_var rfl))) ⟨by show f.fields.length ≤ 1000; omega, hi⟩)) rfl)) (cutAt_ok hf n)) fun y H1 e1 iy => ?_
  have j0 := h0.mono e1
  have iy' : Is K H1 y (rowD (rowI f.holes (cutAt f.fields n))) := iy
  let z0 : NX := { x with asked := 0 }
  refine s_retD' e1 (EvD.eq (ed_callF (z0, rowI f.holes (cutAt f.fields n), f.holes) (ad3 (ed_field (fs := setAt f.fields n z0) (x := z0) (ed_callF (f.fields, n, 0, x) (ad3 (ed_file_fields (f := f) T (ed_var rfl j0)) (ed_v (ev_var rfl)) (ed_v ev_c)) ⟨by show f.fields.length ≤ 1000; omega, hx⟩) (ev_var rfl) rfl (setAt_get hi)) (ed_var rfl iy') (ed_v (ed_file_holes T (ed_var rfl j0))))
    ⟨⟨Nat.zero_le _, ox.n, ox.c, ox.n1, ox.n2, ox.n3⟩, by show (rowI _ _).length ≤ 61; rw [rowI_length]; omega, by show f.holes < (rowI _ _).length; rw [rowI_length]; omega⟩) rfl) k
end costs_beside
namespace outdoes
def sp (K : PySem.W.Frag) : Sp := spF K (fun a : NX × Nat × Nat => a.2.1 < a.1.codes.length ∧ a.2.2 < a.1.codes.length) (fun a => [.lst (a.1.codes.map codeD), .i (a.2.1 : Nat), .i (a.2.2 : Nat)]) fun a => .v (.bl (outdoesB a.1.codes a.2.1 a.2.2))
theorem len : ∀ vs H Q E, sp K vs H Q E → vs.length = 3 := spF_len fun _ => rfl
abbrev sS : Stmt := s_outdoes
abbrev nN : List PySem.Str := ["codes", "other", "number", "better", "worse"]
theorem sc : FnScope nN ["codes", "other", "number"] (defScope sS) := ⟨rfl, rfl, rfl, by decide +kernel, rfl, by decide +kernel, by decide +kernel⟩
theorem ok (T : Txt K mg) : Cal P w K mg base 1 "outdoes" (sp K) [] := by
  refine cal_of T.d_outdoes.1 T.d_outdoes.2 sc len (fun _ _ _ _ _ _ us hl => match us, hl with | [_, _, _], _ => rfl) fun cdv A outer s H vs Q E hr hs => ⟨_, PSs.nox (pss_cons (ps_set (i := 3) sc.nd rfl (Or.inl rfl) (pe_ix ix_list (pv 0) (pv 1) (fun _ _ => rfl))) (pss_cons (ps_set (i := 4) sc.nd rfl (Or.inl rfl) (pe_ix ix_list (pv 0) (pv 2) (fun _ _ => rfl))) (pss_cons (ps_if (PW.pt (pw_or (pt_cmpR op_gt (pe_fld (pv 3) rfl) (pe_fld (pv 4) rfl) (nomark _)) (pw_or1 (pt_cmpR op_gt (pe_fld (pv 3) rfl) (pe_fld (pv 4) rfl) (nomark _))))) (pss_one (ps_ret pe_bl)) pss_nil) (pss_one (ps_ret (pe_or (pe_cmpR op_lt (pe_fld (pv 3) rfl) (pe_fld (pv 4) rfl) (nomark _)) (pe_or (pe_cmpR op_lt (pe_fld (pv 3) rfl) (pe_fld (pv 4) rfl) (nomark _)) (pe_one (pe_cmpR op_lt (pv 1) (pv 2) (nomark _)))))))))), ?_⟩
  obtain ⟨⟨x, o, n⟩, ⟨ho, hn⟩, i, k⟩ := hs
  obtain ⟨x0, x1, x2, rfl, h0, h1, h2⟩ := i.a3
  cases h1.val
  cases h2.val
  dsimp only at ho hn h0 k
  have eb : x.codes[o]? = some x.codes[o] := List.getElem?_eq_getElem ho
  have ew : x.codes[n]? = some x.codes[n] := List.getElem?_eq_getElem hn
  generalize x.codes[o] = b at eb
  generalize x.codes[n] = w0 at ew
  have er : outdoesB x.codes o n = if w0.holes < b.holes ∨ w0.cost < b.cost then false else decide (b.holes < w0.holes) || (decide (b.cost < w0.cost) || decide (o < n)) := by
    unfold outdoesB
    rw [eb, ew]
  rw [er] at k
  refine q_asgD (ed_code (ed_var rfl h0) (ev_var rfl) rfl eb) fun y H1 e1 iy => ?_
  refine q_asgD (ed_code (ed_var rfl (h0.mono e1)) (ev_var rfl) rfl ew) fun z H2 e2 iz => ?_
  have e12 := e1.trans e2
  have iy2 := iy.mono e2
  refine q_when (b := decide ((w0.holes : Int) < (b.holes : Int)) || decide ((w0.cost : Int) < (b.cost : Int))) (et_or (et_gt (ed_code_holes T (ed_var rfl iy2)) (ed_code_holes T (ed_var rfl iz))) fun _ => et_gt (ed_code_cost T (ed_var rfl iy2)) (ed_code_cost T (ed_var rfl iz))) (fun q H3 e3 => ?_) fun q H3 e3 => ?_
  · refine s_retD' (e12.trans e3) (EvD.eq (ed_v ev_c) ?_) k
    rw [Bool.or_eq_true, decide_eq_true_eq, decide_eq_true_eq] at q
    rw [if_pos (by omega)]
  · have e13 := e12.trans e3
    rw [Bool.or_eq_false_iff, decide_eq_false_iff_not, decide_eq_false_iff_not] at q
    refine s_retD' e13 (EvD.eq (ed_v (ev_orV (ev_op (ed_code_holes T (ed_var rfl (iy2.mono e3))) (ed_code_holes T (ed_var rfl (iz.mono e3))) rv_I0) fun _ => ev_orV (ev_op (ed_code_cost T (ed_var rfl (iy2.mono e3))) (ed_code_cost T (ed_var rfl (iz.mono e3))) rv_I0) fun _ => ev_op (ev_var rfl) (ev_var rfl) rv_I0)) ?_) k
    rw [if_neg (by omega)]
    have c1 : ∀ a b : Nat, decide ((a : Int) < (b : Int)) = decide (a < b) := fun a b => by
      by_cases h : a < b
      · rw [decide_eq_true h, decide_eq_true (by omega)]
      · rw [decide_eq_false h, decide_eq_false (by omega)]
    rw [c1, c1, c1]
end outdoes
namespace is_idle
def sp (K : PySem.W.Frag) : Sp := spF K (fun a : NX × Nat => a.2 < a.1.codes.length ∧ a.1.codes.length ≤ 1000) (fun a => [.lst (a.1.codes.map codeD), .i (a.2 : Nat)]) fun a => .v (.bl ((List.range a.1.codes.length).any fun o => outdoesB a.1.codes o a.2))
theorem len : ∀ vs H Q E, sp K vs H Q E → vs.length = 2 := spF_len fun _ => rfl
abbrev sS : Stmt := s_is_idle
abbrev nN : List PySem.Str := ["codes", "number", "other"]
theorem sc : FnScope nN ["codes", "number"] (defScope sS) := ⟨rfl, rfl, rfl, by decide +kernel, rfl, by decide +kernel, by decide +kernel⟩
theorem ok (T : Txt K mg) : Cal P w K mg base 2 "is_idle" (sp K) [] := by
  have d_outdoes := outdoes.ok (P := P) (w := w) (base := base) T
  refine cal_of T.d_is_idle.1 T.d_is_idle.2 sc len (fun _ _ _ _ _ _ us hl => match us, hl with | [_, _], _ => rfl) fun cdv A outer s H vs Q E hr hs => ⟨_, PSs.nox (pss_one (ps_ret (pe_callB (cr_any rfl) (by rfl) T.f_any (by decide +kernel) (pa_cons (pe_lc (own := [("other", 2)]) (g := (gName 2)) (tt := tYes) rfl sc.nd (pi_range1 (by rfl) T.f_range (pa_cons (pe_callB call_len_seq (by rfl) T.f_len PySem.boot_len (pa_cons (pv 0) pa_nil)) pa_nil)) (blkOk_by (own := [("other", 2)]) (N := nN) (sc := defScope sS) (by decide +kernel)) (fun _ _ _ _ _ => pg_name (i := 2) sc.nd rfl (Or.inl rfl)) (fun _ _ _ _ _ => pts_nil) (fun _ _ _ _ _ => (pe_c d_outdoes hr (by decide) rfl (pa_cons (pv 0) (pa_cons (pv 2) (pa_cons (pv 1) pa_nil)))))) pa_nil)))), ?_⟩
  obtain ⟨⟨x, n⟩, ⟨hn, hc⟩, i, k⟩ := hs
  obtain ⟨x0, x1, rfl, h0, h1⟩ := i.a2
  cases h1.val
  dsimp only at hn hc h0 k
  refine s_retD (EvD.eq (ed_v (ev_any (bs := (List.range x.codes.length).map fun o => outdoesB x.codes o n) ?_)) ?_) k
  · rw [List.map_map]
    refine el_lcR (n := x.codes.length) (u := fun o => V.bl (outdoesB x.codes o n)) (ea_cons (ev_is (ev_lenD (ed_var rfl h0)) (by rw [List.length_map])) ea_nil) (by omega) (fun _ => rfl) fun o H1 e1 ho => ?_
    exact ev_callF (x, o, n) (ad3 (ed_var rfl (h0.mono e1)) (ed_v (ev_var rfl)) (ed_v (ev_var rfl))) ⟨ho, hn⟩ rfl
  · rw [List.any_map]
    rfl
end is_idle
namespace idle_codes
def sp (K : PySem.W.Frag) : Sp := spF K (fun x : NX => x.codes.length ≤ 1000) (fun x => [fieldD x]) fun x => natsD (idleI x)
theorem len : ∀ vs H Q E, sp K vs H Q E → vs.length = 1 := spF_len fun _ => rfl
abbrev sS : Stmt := s_idle_codes
abbrev nN : List PySem.Str := ["field", "number"]
theorem sc : FnScope nN ["field"] (defScope sS) := ⟨rfl, rfl, rfl, by decide +kernel, rfl, by decide +kernel, by decide +kernel⟩
theorem ok (T : Txt K mg) : Cal P w K mg base 3 "idle_codes" (sp K) [] := by
  have d_is_idle := is_idle.ok (P := P) (w := w) (base := base) T
  refine cal_of T.d_idle_codes.1 T.d_idle_codes.2 sc len (fun _ _ _ _ _ _ us hl => match us, hl with | [_], _ => rfl) fun cdv A outer s H vs Q E hr hs => ⟨_, PSs.nox (pss_one (ps_ret (pe_lc (own := [("number", 1)]) (g := (gName 1)) rfl sc.nd (pi_range1 (by rfl) T.f_range (pa_cons (pe_callB call_len_seq (by rfl) T.f_len PySem.boot_len (pa_cons (pe_fld (pv 0) rfl) pa_nil)) pa_nil)) (blkOk_by (own := [("number", 1)]) (N := nN) (sc := defScope sS) (by decide +kernel)) (fun _ _ _ _ _ => pg_name (i := 1) sc.nd rfl (Or.inl rfl)) (fun _ _ _ _ _ => pts_one (pt_val (pe_c d_is_idle hr (by decide) rfl (pa_cons (pe_fldK (K := K) rfl (pv 0) rfl) (pa_cons (pv 1) pa_nil))))) (fun _ _ _ _ _ => (pv 1))))), ?_⟩
  obtain ⟨x, hc, i, k⟩ := hs
  obtain ⟨x0, rfl, h0⟩ := i.a1
  dsimp only at hc h0 k
  refine s_retD (EvD.eq (ed_vals (el_lcRF (n := x.codes.length) (fun n => (List.range x.codes.length).any fun o => outdoesB x.codes o n) (fun n => V.int (n : Nat)) (ea_cons (ev_is (ev_lenD (ed_field_codes T (ed_var rfl h0))) (by rw [List.length_map])) ea_nil) (by omega) (fun _ => rfl) (fun n H1 e1 hn => ?_) fun n H1 e1 hn _ => ev_var rfl)) ?_) k
  · exact et_test (ev_callF (x, n) (ad2 (ed_field_codes T (ed_var rfl (h0.mono e1))) (ed_v (ev_var rfl))) ⟨hn, hc⟩ rfl)
  · rw [natsD_eq]
    rfl
end idle_codes
def askD : Option (Int × Int) → D
  | none => .v .non
  | some e => intsD [e.1, e.2]
namespace askings
def sp (K : PySem.W.Frag) : Sp := spF K (fun a : NF × Nat × Nat × NX => OkF a.1 ∧ a.1.fields[a.2.1]? = some a.2.2.2 ∧ a.2.2.1 < a.2.2.2.codes.length) (fun a => [fileD a.1, .i (a.2.1 : Nat), .i (a.2.2.1 : Nat)]) fun a => askD (askI a.2.2.2 a.2.2.1 (besideI a.1 a.2.1 a.2.2.2))
theorem len : ∀ vs H Q E, sp K vs H Q E → vs.length = 3 := spF_len fun _ => rfl
abbrev sS : Stmt := s_askings
abbrev nN : List PySem.Str := ["file", "i", "c", "codes", "beside", "least", "greatest", "code", "cost", "dearer", "saved"]
theorem sc : FnScope nN ["file", "i", "c"] (defScope sS) := ⟨rfl, rfl, rfl, by decide +kernel, rfl, by decide +kernel, by decide +kernel⟩
theorem ok (T : Txt K mg) : Cal P w K mg base 7 "askings" (sp K) [] := by
  have d_greatest_asked := greatest_asked.ok (P := P) (w := w) (base := base) T
  have d_least_asked := least_asked.ok (P := P) (w := w) (base := base) T
  have d_costs_beside := costs_beside.ok (P := P) (w := w) (base := base) T
  refine cal_of T.d_askings.1 T.d_askings.2 sc len (fun _ _ _ _ _ _ us hl => match us, hl with | [_, _, _], _ => rfl) fun cdv A outer s H vs Q E hr hs => ⟨_, PSs.nox (pss_cons (ps_set (i := 3) sc.nd rfl (Or.inl rfl) (pe_fld (pe_ix ix_list (pe_fld (pv 0) rfl) (pv 1) (fun _ _ => rfl)) rfl)) (pss_cons (ps_set (i := 4) sc.nd rfl (Or.inl rfl) (pe_c d_costs_beside hr (by decide) rfl (pa_cons (pv 0) (pa_cons (pv 1) pa_nil)))) (pss_cons (ps_if (pt_cmpR op_isN (pe_ix ix_list (pv 4) (pv 2) (fun _ _ => rfl)) pe_non (nomark _)) (pss_one (ps_ret pe_non)) pss_nil) (pss_cons (ps_set (i := 5) sc.nd rfl (Or.inl rfl) pe_int) (pss_cons (ps_set (i := 6) sc.nd rfl (Or.inl rfl) (pe_gc rfl T.c_MOST_ASKED)) (pss_cons (ps_for PassesOwn.never rfl (pi_zip (by rfl) T.f_zip (pa_cons (pv 3) (pa_cons (pv 4) pa_nil))) (pg_tup rfl (pgs_cons (pg_name (i := 7) sc.nd rfl (Or.inl rfl)) (pgs_cons (pg_name (i := 8) sc.nd rfl (Or.inl rfl)) pgs_nil))) (pss_one (ps_if (pt_cmpR op_notN (pv 8) pe_non (nomark _)) (pss_cons (ps_set (i := 9) sc.nd rfl (Or.inl rfl) (pe_op op_sub (pe_fld (pe_ix ix_list (pv 3) (pv 2) (fun _ _ => rfl)) rfl) (pe_fld (pv 7) rfl))) (pss_cons (ps_set (i := 10) sc.nd rfl (Or.inl rfl) (pe_op op_sub (pv 8) (pe_ix ix_list (pv 4) (pv 2) (fun _ _ => rfl)))) (pss_cons (ps_set (i := 5) sc.nd rfl (Or.inl rfl) (pe_callB (call_max2 rfl) (by rfl) T.f_max (by decide +kernel) (pa_cons (pv 5) (pa_cons (pe_c d_least_asked hr (by decide) rfl (pa_cons (pv 9) (pa_cons (pv 10) pa_nil))) pa_nil)))) (pss_one (ps_set (i := 6) sc.nd rfl (Or.inl rfl) (pe_callB (call_min2 rfl) (by rfl) T.f_min (by decide +kernel) (pa_cons (pv 6) (pa_cons (pe_c d_greatest_asked hr (by decide) rfl (pa_cons (pv 9) (pa_cons (pv 10) pa_nil))) pa_nil)))))))) pss_nil))) (pss_one (ps_ret (pe_ifExp (pt_cmpR op_le (pv 5) (pv 6) (nomark _)) (pe_lst (pa_cons (pv 5) (pa_cons (pv 6) pa_nil))) pe_non))))))))), ?_⟩
  obtain ⟨⟨f, n, c, x⟩, ⟨hf, hx, hc⟩, i, k⟩ := hs
  obtain ⟨x0, x1, x2, rfl, h0, h1, h2⟩ := i.a3
  cases h1.val
  cases h2.val
  dsimp only at hf hx hc h0 k
  have ox := hf.x x (List.mem_of_getElem? hx)
  refine q_asgD (ed_field_codes T (ed_field (ed_file_fields T (ed_var rfl h0)) (ev_var rfl) rfl hx)) fun y H1 e1 iy => ?_
  refine q_asgD (ed_callF (f, n, x) (ad2 (ed_var rfl (h0.mono e1)) (ed_v (ev_var rfl))) ⟨hf, hx⟩) fun z H2 e2 iz => ?_
  have e12 := e1.trans e2
  have bl : (besideI f n x).length = x.codes.length := costsWith_length _ _ _
  have hcb : c < (besideI f n x).length := by rw [bl]; exact hc
  have iz' : Is K H2 z (rowD (besideI f n x)) := iz
  generalize besideI f n x = bs at k iz' bl hcb
  refine q_when (et_isN (o := bs.getD c none) (ev_ixRow (ed_var rfl iz') (ev_var rfl) rfl hcb)) (fun q H3 e3 => ?_) fun q H3 e3 => ?_
  · refine s_retD' (e12.trans e3) (EvD.eq (ed_v ev_c) ?_) k
    unfold askI
    rw [of_decide_eq_true q]
    rfl
  · obtain ⟨b, hb⟩ := Option.ne_none_iff_exists'.mp (of_decide_eq_false q)
    have e13 := e12.trans e3
    refine q_asg ev_c fun H4 e4 => ?_
    refine q_asg ev_c fun H5 e5 => ?_
    have e35 := e4.trans e5
    have iy3 : Is K H3 y (.lst (x.codes.map codeD)) := iy.mono (e2.trans e3)
    have iz3 : Is K H3 z (.lst (bs.map fun o => D.v (optV o))) := by rw [← rowD_o]; exact iz'.mono e3
    have iz3' : Is K H3 z (rowD bs) := iz'.mono e3
    let cc := Vbenaj.codeAt x c
    have hcc : x.codes[c]? = some cc := codeAt_get hc
    have occ := ox.c cc (List.mem_of_getElem? hcc)
    have oh := occ.k
    refine s_forZX (H0 := H3) e35 (xd_var rfl iy3) (xd_var rfl iz3) (fun i σ' H' => Ex H3 H' ∧ ∃ (c1 c2 c3 c4 : Option V), σ' = [some x0, some (.int (n : Nat)), some (.int (c : Nat)), some y, some z, some (.int ((((x.codes.zip bs).take i).foldl (askStep (cc.cost : Int) b) (0, 1000)).1)), some (.int ((((x.codes.zip bs).take i).foldl (askStep (cc.cost : Int) b) (0, 1000)).2)), c1, c2, c3, c4])
      (fun H6 e6 => ⟨e35.trans e6, none, none, none, none, rfl⟩) (fun _ _ _ q => q.1) ?_ ?_
    · rintro i d o y1 y2 σ' Ha Hb hd ho id io ⟨ex, c1, c2, c3, c4, rfl⟩ ⟨Ta, ob, hT, rfl⟩
      have exn := ex.trans (Ex.new (o := ob) hT)
      cases io.val
      have ez : (x.codes.zip bs)[i]? = some (d, o) := by rw [List.getElem?_zip_eq_some]; exact ⟨hd, ho⟩
      obtain ⟨hz1, hz2⟩ := List.getElem?_eq_some_iff.mp ez
      have ef : ((x.codes.zip bs).take (i + 1)).foldl (askStep (cc.cost : Int) b) (0, 1000) = askStep (cc.cost : Int) b (((x.codes.zip bs).take i).foldl (askStep (cc.cost : Int) b) (0, 1000)) (d, o) := by
        rw [List.take_succ_eq_append_getElem hz1, List.foldl_append, hz2]
        rfl
      rw [ef]
      generalize ((x.codes.zip bs).take i).foldl (askStep (cc.cost : Int) b) (0, 1000) = en
      have od := ox.c d (List.mem_of_getElem? hd)
      have odk := od.k
      refine s_when (et_notN (o := o) (ev_var rfl)) (fun q H6 e6 => ?_) fun q H6 e6 => ?_
      · obtain ⟨cost, rfl⟩ := Option.ne_none_iff_exists'.mp (of_decide_eq_true q)
        have ex6 := exn.trans e6
        refine q_asg (v := .int ((cc.cost : Int) - (d.cost : Int))) (ev_sub (ed_code_cost T (ed_code (ed_var rfl (iy3.mono ex6)) (ev_var rfl) rfl hcc)) (ed_code_cost T (ed_var rfl (id.mono ex6)))) fun H7 e7 => ?_
        refine q_asg (v := .int (cost - b)) (ev_sub (ev_var (v := optV (some cost)) rfl) (ev_is (ev_ixRow (ed_var rfl (iz3'.mono (ex6.trans e7))) (ev_var rfl) rfl hcb) (by rw [hb]; rfl))) fun H8 e8 => ?_
        refine q_asg (ev_max2' (ev_var rfl) (ev_callF ((cc.cost : Int) - (d.cost : Int), cost - b) (ad2 (ed_v (ev_var rfl)) (ed_v (ev_var rfl))) ⟨by show _ ≤ (cc.cost : Int) - d.cost; omega, by show (cc.cost : Int) - d.cost ≤ _; omega⟩ rfl)) fun H9 e9 => ?_
        refine s_asg (ev_min2' (ev_var rfl) (ev_callF ((cc.cost : Int) - (d.cost : Int), cost - b) (ad2 (ed_v (ev_var rfl)) (ed_v (ev_var rfl))) ⟨by show _ ≤ (cc.cost : Int) - d.cost; omega, by show (cc.cost : Int) - d.cost ≤ _; omega⟩ rfl)) fun H10 e10 => ⟨(((ex6.trans e7).trans e8).trans e9).trans e10, _, _, _, _, rfl⟩
      · have : o = none := by
          cases o with
          | none => rfl
          | some _ => cases q
        subst this
        exact ⟨exn.trans e6, _, _, _, _, rfl⟩
    · rintro σ' H' ⟨ex, c1, c2, c3, c4, rfl⟩
      have hl : min x.codes.length bs.length = (x.codes.zip bs).length := by rw [List.length_zip]
      rw [hl, List.take_length]
      have ea : askI x c bs = if ((x.codes.zip bs).foldl (askStep (cc.cost : Int) b) (0, 1000)).1 ≤ ((x.codes.zip bs).foldl (askStep (cc.cost : Int) b) (0, 1000)).2 then some ((x.codes.zip bs).foldl (askStep (cc.cost : Int) b) (0, 1000)) else none := by
        unfold askI
        rw [hb]
      rw [ea] at k
      generalize (x.codes.zip bs).foldl (askStep (cc.cost : Int) b) (0, 1000) = en at k
      refine s_retD' (e13.trans ex) (ed_if (et_le (ev_var rfl) (ev_var rfl)) (fun q => ?_) fun q => ?_) k
      · rw [if_pos (of_decide_eq_true q)]
        exact ed_lst (ad2 (ed_v (ev_var rfl)) (ed_v (ev_var rfl))) (by simp)
      · rw [if_neg (of_decide_eq_false q)]
        exact ed_v ev_c
end askings
end
end Nt

set_option maxHeartbeats 4000000
namespace Nt
open PySem PySem.Spec PyProof.Rows L2 Evl
open C8 (Cal Mak Met pe_c pe_mk pe_mt pe_mt0 pe_gc)
/-! mirrors -/
def labelRow (f : NF) (d : List Int) (i : Nat) : List Int := (d.drop (i * (f.holes + 1))).take (f.holes + 1)
def gcdP : Nat → Nat → Nat → Nat
  | 0, a, _ => a
  | n + 1, a, b => if 0 < b then gcdP n b (a % b) else a
/-- row i of the greatest labels -/
def greatRow (f : NF) (d : List Int) (i : Nat) : Row := match f.fields[i]? with
  | some x => rowAhead x (intRow (labelRow f d (i + 1)))
  | none => lastRow f.holes 0
def greats (f : NF) (d : List Int) : List Row := (List.range (f.fields.length + 1)).map (greatRow f d)
def wrongAt (f : NF) (d : List Int) (i h : Nat) : Bool := match (greatRow f d i).getD h none with
  | some m => decide (m < (labelRow f d i).getD h 0)
  | none => false
def wrongIn (f : NF) (d : List Int) (i : Nat) : Option (Nat × Nat) := ((List.range (f.holes + 1)).find? fun h => wrongAt f d i h).map fun h => (i, h)
def firstWrong (f : NF) (d : List Int) : Option (Nat × Nat) := (List.range (f.fields.length + 1)).findSome? (wrongIn f d)
def wrongD : Option (Nat × Nat) → D
  | none => .v .non
  | some z => natsD [z.1, z.2]
theorem labelRow_length {f : NF} {d : List Int} (h : d.length = (f.fields.length + 1) * (f.holes + 1)) {i : Nat} (hi : i < f.fields.length + 1) : (labelRow f d i).length = f.holes + 1 := by
  unfold labelRow
  rw [List.length_take, List.length_drop, h]
  have : (i + 1) * (f.holes + 1) ≤ (f.fields.length + 1) * (f.holes + 1) := Nat.mul_le_mul_right _ hi
  rw [Nat.succ_mul] at this
  omega
theorem greatRow_length {f : NF} {d : List Int} (h : d.length = (f.fields.length + 1) * (f.holes + 1)) {i : Nat} (hi : i < f.fields.length + 1) : (greatRow f d i).length = f.holes + 1 := by
  unfold greatRow
  cases e : f.fields[i]? with
  | none => exact List.length_replicate ..
  | some x =>
    have := (List.getElem?_eq_some_iff.mp e).1
    show (rowAhead x _).length = _
    rw [rowAhead_length]
    unfold intRow
    rw [List.length_map, labelRow_length h (by omega)]
theorem intRow_D (l : List Int) : rowD (intRow l) = intsD l := by
  unfold rowD intRow intsD
  rw [List.map_map, List.map_map]
  rfl
section
variable {P : Program} {w : World} {K : PySem.W.Frag} {mg : PySem.Str → Option Value} {base : Heap}
namespace greatest_divisor
def sp (K : PySem.W.Frag) : Sp := spF K (fun a : Nat × Nat => a.2 ≤ 1000000000) (fun a => [.i (a.1 : Nat), .i (a.2 : Nat)]) fun a => .i (gcdP (a.2 + 1) a.1 a.2 : Nat)
theorem len : ∀ vs H Q E, sp K vs H Q E → vs.length = 2 := spF_len fun _ => rfl
theorem gcdP_more : ∀ (n m a b : Nat), b < n → b < m → gcdP n a b = gcdP m a b
  | 0, _, _, _, h, _ => by omega
  | _, 0, _, _, _, h => by omega
  | n + 1, m + 1, a, b, h1, h2 => by
    show (if 0 < b then gcdP n b (a % b) else a) = if 0 < b then gcdP m b (a % b) else a
    by_cases hb : 0 < b
    · rw [if_pos hb, if_pos hb]
      have := Nat.mod_lt a hb
      exact gcdP_more n m b (a % b) (by omega) (by omega)
    · rw [if_neg hb, if_neg hb]
abbrev sS : Stmt := s_greatest_divisor
abbrev nN : List PySem.Str := ["one", "other", "rest"]
theorem sc : FnScope nN ["one", "other"] (defScope sS) := ⟨rfl, rfl, rfl, by decide +kernel, rfl, by decide +kernel, by decide +kernel⟩
theorem ok (T : Txt K mg) : Cal P w K mg base 1 "greatest_divisor" (sp K) [] := by
  refine cal_of T.d_greatest_divisor.1 T.d_greatest_divisor.2 sc len (fun _ _ _ _ _ _ us hl => match us, hl with | [_, _], _ => rfl) fun cdv A outer s H vs Q E hr hs => ⟨_, PSs.nox (pss_cons (ps_while PassesOwn.never (pt_cmpR op_gt (pv 1) pe_int (nomark _)) (pss_cons (ps_set (i := 2) sc.nd rfl (Or.inl rfl) (pe_op op_mod (pv 0) (pv 1))) (pss_cons (ps_set (i := 0) sc.nd rfl (Or.inl rfl) (pv 1)) (pss_one (ps_set (i := 1) sc.nd rfl (Or.inl rfl) (pv 2)))))) (pss_one (ps_ret (pv 0)))), ?_⟩
  obtain ⟨⟨a0, b0⟩, hb0, i, k⟩ := hs
  obtain ⟨x0, x1, rfl, i0, i1⟩ := i.a2
  cases i0.val
  cases i1.val
  dsimp only at hb0 k
  refine q_while (fun m σ' H' => Ex H H' ∧ ∃ (a b : Nat) (c : Option V), m = b ∧ b ≤ 1000000000 ∧ σ' = [some (.int (a : Nat)), some (.int (b : Nat)), c] ∧ gcdP (b + 1) a b = gcdP (b0 + 1) a0 b0) b0 ⟨Ex.refl H, a0, b0, none, rfl, hb0, rfl, rfl⟩ ?_
  rintro m σ' H' ⟨ex, a, b, c, rfl, hb, rfl, hg⟩
  refine ⟨_, et_gt (ev_var rfl) ev_c, fun z H1 e1 => ?_, fun z H1 e1 => ?_⟩
  · have hp : 0 < m := by have := of_decide_eq_true z; omega
    have hlt := Nat.mod_lt a hp
    refine ⟨fun σ2 H2 => Ex H H2 ∧ ∃ (a b : Nat) (c : Option V), b < m ∧ b ≤ 1000000000 ∧ σ2 = [some (.int (a : Nat)), some (.int (b : Nat)), c] ∧ gcdP (b + 1) a b = gcdP (b0 + 1) a0 b0, fun σ2 H2 ⟨h1, a, b, c, h2, h3, h4, h5⟩ => ⟨b, h2, h1, a, b, c, rfl, h3, h4, h5⟩, ?_⟩
    refine q_asg (v := .int ((a % m : Nat) : Int)) (ev_is (ev_mod (ev_var rfl) (ev_var rfl) (by omega)) (by congr 1)) fun H2 e2 => ?_
    refine q_asg (ev_var rfl) fun H3 e3 => ?_
    refine s_asg (ev_var rfl) fun H4 e4 => ⟨(((ex.trans e1).trans e2).trans e3).trans e4, m, a % m, some (.int ((a % m : Nat) : Int)), hlt, by omega, rfl, ?_⟩
    rw [← hg]
    show _ = if 0 < m then gcdP m m (a % m) else a
    rw [if_pos hp]
    exact gcdP_more _ _ _ _ (by omega) (by omega)
  · have hz : m = 0 := by have := of_decide_eq_false z; omega
    subst hz
    refine s_retD' (ex.trans e1) (EvD.eq (ed_v (ev_var rfl)) ?_) k
    rw [← hg]
    rfl
end greatest_divisor
namespace is_labels
def sp (K : PySem.W.Frag) : Sp := spF K (fun a : NF × List Int => OkF a.1 ∧ a.2.length ≤ 40000) (fun a => [fileD a.1, intsD a.2]) fun a => .v (.bl (isLabelsB a.1 a.2))
theorem len : ∀ vs H Q E, sp K vs H Q E → vs.length = 2 := spF_len fun _ => rfl
abbrev sS : Stmt := s_is_labels
abbrev nN : List PySem.Str := ["file", "labels", "label"]
theorem sc : FnScope nN ["file", "labels"] (defScope sS) := ⟨rfl, rfl, rfl, by decide +kernel, rfl, by decide +kernel, by decide +kernel⟩
theorem ok (T : Txt K mg) : Cal P w K mg base 1 "is_labels" (sp K) [] := by
  refine cal_of T.d_is_labels.1 T.d_is_labels.2 sc len (fun _ _ _ _ _ _ us hl => match us, hl with | [_, _], _ => rfl) fun cdv A outer s H vs Q E hr hs => ⟨_, PSs.nox (pss_cons (ps_if (pt_cmpR op_ne (pe_callB call_len_seq (by rfl) T.f_len PySem.boot_len (pa_cons (pv 1) pa_nil)) (pe_op op_mul (pe_op op_add (pe_callB call_len_seq (by rfl) T.f_len PySem.boot_len (pa_cons (pe_fld (pv 0) rfl) pa_nil)) pe_int) (pe_op op_add (pe_fld (pv 0) rfl) pe_int)) (nomark _)) (pss_one (ps_ret pe_bl)) pss_nil) (pss_one (ps_ret (pe_callB (cr_all rfl) (by rfl) T.f_all (by decide +kernel) (pa_cons (pe_lc (own := [("label", 2)]) (g := (gName 2)) (tt := tYes) rfl sc.nd (pi_list (pv 1)) (blkOk_by (own := [("label", 2)]) (N := nN) (sc := defScope sS) (by decide +kernel)) (fun _ _ _ _ _ => pg_name (i := 2) sc.nd rfl (Or.inl rfl)) (fun _ _ _ _ _ => pts_nil) (fun _ _ _ _ _ => (pe_cmpR op_le (pe_callB call_abs (by rfl) T.f_abs (by decide +kernel) (pa_cons (pv 2) pa_nil)) (pe_gc rfl T.c_MOST_LABEL) (nomark _)))) pa_nil))))), ?_⟩
  obtain ⟨⟨f, d⟩, ⟨hf, hd⟩, i, k⟩ := hs
  obtain ⟨x0, x1, rfl, h0, h1⟩ := i.a2
  dsimp only at hf hd h0 h1 k
  have hn := hf.n
  have hh := hf.h
  refine q_when (b := decide (d.length ≠ (f.fields.length + 1) * (f.holes + 1))) (et_is (et_neI (i := (d.length : Int)) (j := (((f.fields.length + 1) * (f.holes + 1) : Nat) : Int)) (ev_is (ev_lenD (ed_var rfl h1)) (by rw [List.length_map]))
    (ev_is (ev_op (ev_add (ev_lenD (ed_file_fields T (ed_var rfl h0))) ev_c) (ev_add (ed_file_holes T (ed_var rfl h0)) ev_c) (rv_I (.inl ⟨by rw [List.length_map]; omega, by rw [List.length_map]; omega⟩))) ?_)) ?_) (fun z H1 e1 => ?_) fun z H1 e1 => ?_
  · show V.int _ = V.int _
    rw [List.length_map]
    congr 1
  · by_cases q : d.length = (f.fields.length + 1) * (f.holes + 1)
    · rw [decide_eq_false (by simp [q]), decide_eq_false (by simp [q])]
    · rw [decide_eq_true (by intro z; exact q (by exact_mod_cast z)), decide_eq_true q]
  · refine s_retD' e1 (EvD.eq (ed_v ev_c) ?_) k
    show D.v (.bl false) = D.v (.bl (isLabelsB f d))
    unfold isLabelsB
    rw [if_pos (of_decide_eq_true z)]
  · refine s_retD' e1 (EvD.eq (ed_v (ev_all (bs := d.map fun z => decide ((if z < 0 then -z else z) ≤ 1000000000000)) ?_)) ?_) k
    · rw [List.map_map]
      refine el_lcM (l := d) (fD := fun n => D.v (.int n)) (u := fun z => V.bl (decide ((if z < 0 then -z else z) ≤ 1000000000000))) (ed_var rfl (h1.mono e1)) hd (fun _ => rfl) fun i a x H2 e2 ha ia => ?_
      cases ia.val
      exact ev_op (ev_abs (ev_var rfl)) ev_c rv_I0
    · show D.v (.bl _) = D.v (.bl (isLabelsB f d))
      unfold isLabelsB
      rw [if_neg (of_decide_eq_false z), List.all_map]
      rfl
end is_labels
namespace label_rows
def sp (K : PySem.W.Frag) : Sp := spF K (fun a : NF × List Int => OkF a.1 ∧ a.2.length = (a.1.fields.length + 1) * (a.1.holes + 1)) (fun a => [fileD a.1, intsD a.2]) fun a => .lst ((List.range (a.1.fields.length + 1)).map fun i => intsD (labelRow a.1 a.2 i))
theorem len : ∀ vs H Q E, sp K vs H Q E → vs.length = 2 := spF_len fun _ => rfl
abbrev sS : Stmt := s_label_rows
abbrev nN : List PySem.Str := ["file", "labels", "width", "number"]
theorem sc : FnScope nN ["file", "labels"] (defScope sS) := ⟨rfl, rfl, rfl, by decide +kernel, rfl, by decide +kernel, by decide +kernel⟩
theorem ok (T : Txt K mg) : Cal P w K mg base 1 "label_rows" (sp K) [] := by
  refine cal_of T.d_label_rows.1 T.d_label_rows.2 sc len (fun _ _ _ _ _ _ us hl => match us, hl with | [_, _], _ => rfl) fun cdv A outer s H vs Q E hr hs => ⟨_, PSs.nox (pss_cons (ps_set (i := 2) sc.nd rfl (Or.inr rfl) (pe_op op_add (pe_fld (pv 0) rfl) pe_int)) (pss_one (ps_ret (pe_lc (own := [("number", 3)]) (g := (gName 3)) (tt := tYes) rfl sc.nd (pi_range1 (by rfl) T.f_range (pa_cons (pe_op op_add (pe_callB call_len_seq (by rfl) T.f_len PySem.boot_len (pa_cons (pe_fld (pv 0) rfl) pa_nil)) pe_int) pa_nil)) (blkOk_by (own := [("number", 3)]) (N := nN) (sc := defScope sS) (by decide +kernel)) (fun _ _ _ _ _ => pg_name (i := 3) sc.nd rfl (Or.inl rfl)) (fun _ _ _ _ _ => pts_nil) (fun _ _ _ _ _ => (pe_slice (sl_listK (K := K) rfl) (pv 1) (po_some (pe_op op_mul (pv 3) (pv 2))) (po_some (pe_op op_add (pe_op op_mul (pv 3) (pv 2)) (pv 2))))))))), ?_⟩
  obtain ⟨⟨f, d⟩, ⟨hf, hd⟩, i, k⟩ := hs
  obtain ⟨x0, x1, rfl, h0, h1⟩ := i.a2
  dsimp only at hf hd h0 h1 k
  have hn := hf.n
  have hh := hf.h
  refine q_asg (v := .int ((f.holes + 1 : Nat) : Int)) (ev_is (ev_add (ed_file_holes T (ed_var rfl h0)) ev_c) rfl) fun H1 e1 => ?_
  refine s_retD' e1 (EvD.eq (ed_lcRowsR (n := f.fields.length + 1) (fun i => (labelRow f d i).map V.int) (ea_cons (ev_is (ev_add (ev_lenD (ed_file_fields T (ed_var rfl (h0.mono e1)))) ev_c) (by rw [List.length_map]; rfl)) ea_nil) (by omega) (fun i hi => ?_) (fun _ => rfl) fun i H2 e2 hi => ?_) ?_) k
  · have hl := labelRow_length (f := f) (d := d) hd hi
    refine ⟨fun z => ?_, fun v hv a => ?_⟩
    · have : ((labelRow f d i).map V.int).length = 0 := by rw [z]; rfl
      rw [List.length_map, hl] at this
      cases this
    · obtain ⟨n, _, rfl⟩ := List.mem_map.mp hv
      exact fun z => by cases z
  · have hm : (i + 1) * (f.holes + 1) ≤ d.length := by rw [hd]; exact Nat.mul_le_mul_right _ hi
    have hm2 : i * (f.holes + 1) + (f.holes + 1) ≤ d.length := by rw [Nat.succ_mul] at hm; exact hm
    have em : ((i : Int) * ((f.holes + 1 : Nat) : Int)) = ((i * (f.holes + 1) : Nat) : Int) := by rw [Int.natCast_mul]
    have mul : Ev (tOp (rI CMul fun i j => .int (i * j)) (tVar 3) (tVar 2)) ((wipe (List.set (L2.start ["file", "labels", "width", "number"] [x0, x1]) 2 (some (.int ((f.holes + 1 : Nat) : Int)))) [3]).set 3 (some (.int (i : Int)))) H2 (.int ((i * (f.holes + 1) : Nat) : Int)) := by
      rw [← em]
      exact ev_op (ev_var rfl) (ev_var rfl) (rv_I (.inl ⟨by omega, by omega⟩))
    have dl : (d.map fun n => D.v (.int n)).length = d.length := List.length_map ..
    refine EvD.eq (ed_sl (ed_var rfl (h1.mono (e1.trans e2))) (eo_some mul) (eo_some (ev_is (ev_add mul (ev_var rfl)) rfl))) ?_
    have e3 : (((i * (f.holes + 1) : Nat) : Int) + ((f.holes + 1 : Nat) : Int)) = ((i * (f.holes + 1) + (f.holes + 1) : Nat) : Int) := by omega
    have hm3 : i * (f.holes + 1) ≤ d.length := by omega
    rw [e3, HT.sIx_nat, HT.sIx_nat, dl, Nat.min_eq_left hm2, Nat.min_eq_left hm3, Nat.add_sub_cancel_left]
    unfold labelRow
    rw [List.map_map, List.map_take, List.map_drop]
    rfl
  · congr 1
    refine List.map_congr_left fun i _ => ?_
    rw [intsD_eq]
end label_rows
/-- the rows of labels -/
def rowsD (f : NF) (d : List Int) : D := .lst ((List.range (f.fields.length + 1)).map fun i => intsD (labelRow f d i))
theorem range_drop1 (n : Nat) : (List.range (n + 1)).drop 1 = (List.range n).map fun i => i + 1 := by
  rw [List.range_succ_eq_map]
  rfl
theorem optV_row (r : Row) : rowD r = .lst ((r.map optV).map D.v) := rfl
namespace greatest_labels
def sp (K : PySem.W.Frag) : Sp := spF K (fun a : NF × List Int => OkF a.1 ∧ a.2.length = (a.1.fields.length + 1) * (a.1.holes + 1)) (fun a => [fileD a.1, rowsD a.1 a.2]) fun a => .lst ((greats a.1 a.2).map rowD)
theorem len : ∀ vs H Q E, sp K vs H Q E → vs.length = 2 := spF_len fun _ => rfl
abbrev sS : Stmt := s_greatest_labels
abbrev nN : List PySem.Str := ["file", "rows", "greatest", "field", "behind"]
theorem sc : FnScope nN ["file", "rows"] (defScope sS) := ⟨rfl, rfl, rfl, by decide +kernel, rfl, by decide +kernel, by decide +kernel⟩
theorem ok (T : Txt K mg) : Cal P w K mg base 4 "greatest_labels" (sp K) [] := by
  have d_last_row := last_row.ok (P := P) (w := w) (base := base) T
  have d_row_ahead := row_ahead.ok (P := P) (w := w) (base := base) T
  refine cal_of T.d_greatest_labels.1 T.d_greatest_labels.2 sc len (fun _ _ _ _ _ _ us hl => match us, hl with | [_, _], _ => rfl) fun cdv A outer s H vs Q E hr hs => ⟨_, PSs.nox (pss_cons (ps_setLc (i := 2) (own := [("field", 3), ("behind", 4)]) (g := (gTup K 2 (gCons (gName 3) (gCons (gName 4) gNil)))) (tt := tYes) rfl sc.nd rfl rfl (sw_true rfl rfl rfl (by decide +kernel)) (pi_zip (by rfl) T.f_zip (pa_cons (pe_fld (pv 0) rfl) (pa_cons (pe_slice sl_list (pv 1) (po_some pe_int) po_none) pa_nil))) (blkOk_by (own := [("field", 3), ("behind", 4)]) (N := nN) (sc := defScope sS) (by decide +kernel)) (fun _ _ _ _ _ => pg_tup rfl (pgs_cons (pg_name (i := 3) sc.nd rfl (Or.inl rfl)) (pgs_cons (pg_name (i := 4) sc.nd rfl (Or.inl rfl)) pgs_nil))) (fun _ _ _ _ _ => pts_nil) (fun _ _ _ _ _ => (pe_c d_row_ahead hr (by decide) rfl (pa_cons (pv 3) (pa_cons (pv 4) pa_nil))))) (pss_one (ps_ret (pe_op op_cat (pv 2) (pe_lst (pa_cons (pe_c d_last_row hr (by decide) rfl (pa_cons (pv 0) (pa_cons pe_int pa_nil))) pa_nil)))))), ?_⟩
  obtain ⟨⟨f, d⟩, ⟨hf, hd⟩, i, k⟩ := hs
  obtain ⟨x0, x1, rfl, h0, h1⟩ := i.a2
  dsimp only at hf hd h0 h1 k
  have hn := hf.n
  have hh := hf.h
  have h1' : Is K H x1 (.lst ((List.range (f.fields.length + 1)).map fun i => intsD (labelRow f d i))) := h1
  have hdr : EvD K (tSl (rSlL K) (tVar 1) (tPart (tC (.int 1))) tNoPart) (L2.start ["file", "rows", "greatest", "field", "behind"] [x0, x1]) H (.lst (((List.range f.fields.length)).map fun i => intsD (labelRow f d (i + 1)))) := by
    refine EvD.eq (ed_from (i := 1) (ed_var rfl h1') (ev_is ev_c rfl) (by rw [List.length_map, List.length_range]; omega)) ?_
    rw [← List.map_drop, range_drop1, List.map_map]
    rfl
  refine q_asgD (ed_lcRowsZ (l := f.fields) (m := List.range f.fields.length) (fD := fieldD) (gD := fun i => intsD (labelRow f d (i + 1))) (fun x i => (rowAhead x (intRow (labelRow f d (i + 1)))).map optV) (ad2 (ed_file_fields T (ed_var rfl h0)) hdr) (by omega) (fun i a b ha hb => ?_) (fun _ _ => rfl) fun i a b x y H1 e1 ha hb ia ib => ?_) fun y H1 e1 iy => ?_
  · have hb2 := (List.getElem?_eq_some_iff.mp hb).1
    rw [List.length_range] at hb2
    rw [List.getElem?_range hb2] at hb
    cases hb
    refine ⟨fun z => ?_, fun v hv a => ?_⟩
    · have := congrArg List.length z
      rw [List.length_map, rowAhead_length] at this
      unfold intRow at this
      rw [List.length_map, labelRow_length hd (by omega)] at this
      cases this
    · obtain ⟨n, _, rfl⟩ := List.mem_map.mp hv
      cases n <;> exact fun z => by cases z
  · have hb2 := (List.getElem?_eq_some_iff.mp hb).1
    rw [List.length_range] at hb2
    rw [List.getElem?_range hb2] at hb
    cases hb
    rw [← intRow_D] at ib
    refine ed_callF (a, intRow (labelRow f d (i + 1))) (ad2 (ed_var rfl ia) (ed_var rfl ib)) ⟨hf.x a (List.mem_of_getElem? ha), ?_⟩
    show (intRow _).length ≤ 61
    unfold intRow
    rw [List.length_map, labelRow_length hd (by omega)]
    omega
  · refine s_retD' e1 (EvD.eq (ed_cat (ed_var rfl iy) (ed_lst (ad1 (ed_callF (f, 0) (ad2 (ed_var rfl (h0.mono e1)) (ed_v ev_c)) hf.h)) (by simp)) ?_) ?_) k
    · rw [List.length_map, List.length_zip, List.length_range]
      show min _ _ + 1 ≤ _
      omega
    · unfold greats
      rw [List.range_succ, List.map_append, List.map_append, List.map_map]
      congr 2
      · refine List.ext_getElem? fun i => ?_
        rw [List.getElem?_map, List.getElem?_map]
        by_cases hi : i < f.fields.length
        · have e2 : (f.fields.zip (List.range f.fields.length))[i]? = some (f.fields[i], i) := by rw [List.getElem?_zip_eq_some]; exact ⟨List.getElem?_eq_getElem hi, List.getElem?_range hi⟩
          rw [e2, List.getElem?_range hi]
          show some (D.lst (((rowAhead f.fields[i] _).map optV).map D.v)) = some (rowD (greatRow f d i))
          unfold greatRow
          rw [List.getElem?_eq_getElem hi]
          rfl
        · rw [List.getElem?_eq_none (by rw [List.length_zip, List.length_range]; omega), List.getElem?_eq_none (by rw [List.length_range]; omega)]
          rfl
      · show [rowD (lastRow f.holes 0)] = [rowD (greatRow f d f.fields.length)]
        unfold greatRow
        rw [List.getElem?_eq_none (Nat.le_refl _)]
end greatest_labels
theorem find_range_first {p : Nat → Bool} {n h : Nat} (hh : h < n) (hp : p h = true) (hb : ∀ m, m < h → p m = false) : (List.range n).find? p = some h := by
  rw [List.find?_range_eq_some]
  exact ⟨hp, List.mem_range.mpr hh, fun m hm => by rw [hb m hm]; rfl⟩
theorem find_range_none {p : Nat → Bool} {n : Nat} (hb : ∀ m, m < n → p m = false) : (List.range n).find? p = none := by
  rw [List.find?_eq_none]
  intro m hm
  rw [hb m (List.mem_range.mp hm)]
  decide
theorem some_range_first {α : Type} {g : Nat → Option α} {a : α} : ∀ {n h : Nat}, h < n → g h = some a → (∀ m, m < h → g m = none) → (List.range n).findSome? g = some a
  | 0, _, hh, _, _ => by omega
  | n + 1, h, hh, hg, hb => by
    rw [List.range_succ, List.findSome?_append]
    by_cases q : h < n
    · rw [some_range_first q hg hb]
      rfl
    · have : h = n := by omega
      subst this
      have e : (List.range h).findSome? g = none := by
        rw [List.findSome?_eq_none_iff]
        intro m hm
        exact hb m (List.mem_range.mp hm)
      rw [e]
      show (([h] : List Nat).findSome? g) = some a
      rw [List.findSome?_cons, hg]
namespace first_wrong_label
def sp (K : PySem.W.Frag) : Sp := spF K (fun a : NF × List Int => OkF a.1 ∧ a.2.length = (a.1.fields.length + 1) * (a.1.holes + 1)) (fun a => [fileD a.1, rowsD a.1 a.2]) fun a => wrongD (firstWrong a.1 a.2)
theorem len : ∀ vs H Q E, sp K vs H Q E → vs.length = 2 := spF_len fun _ => rfl
abbrev sS : Stmt := s_first_wrong_label
abbrev nN : List PySem.Str := ["file", "rows", "number", "greatest", "holes", "most"]
theorem sc : FnScope nN ["file", "rows"] (defScope sS) := ⟨rfl, rfl, rfl, by decide +kernel, rfl, by decide +kernel, by decide +kernel⟩
theorem ok (T : Txt K mg) : Cal P w K mg base 5 "first_wrong_label" (sp K) [] := by
  have d_greatest_labels := greatest_labels.ok (P := P) (w := w) (base := base) T
  refine cal_of T.d_first_wrong_label.1 T.d_first_wrong_label.2 sc len (fun _ _ _ _ _ _ us hl => match us, hl with | [_, _], _ => rfl) fun cdv A outer s H vs Q E hr hs => ⟨_, PSs.nox (pss_cons (ps_for PassesOwn.never rfl (pi_enum (by rfl) T.f_enumerate (pa_cons (pe_c d_greatest_labels hr (by decide) rfl (pa_cons (pv 0) (pa_cons (pv 1) pa_nil))) pa_nil)) (pg_tup rfl (pgs_cons (pg_name (i := 2) sc.nd rfl (Or.inl rfl)) (pgs_cons (pg_name (i := 3) sc.nd rfl (Or.inl rfl)) pgs_nil))) (pss_one (ps_for PassesOwn.never rfl (pi_enum (by rfl) T.f_enumerate (pa_cons (pv 3) pa_nil)) (pg_tup rfl (pgs_cons (pg_name (i := 4) sc.nd rfl (Or.inl rfl)) (pgs_cons (pg_name (i := 5) sc.nd rfl (Or.inl rfl)) pgs_nil))) (pss_one (ps_if (PW.pt (pw_and (pt_cmpR op_notN (pv 5) pe_non (nomark _)) (pw_and1 (pt_cmpR op_gt (pe_ix ix_list (pe_ix ix_list (pv 1) (pv 2) (fun _ _ => rfl)) (pv 4) (fun _ _ => rfl)) (pv 5) (nomark _))))) (pss_one (ps_ret (pe_lst (pa_cons (pv 2) (pa_cons (pv 4) pa_nil))))) pss_nil))))) (pss_one (ps_ret pe_non))), ?_⟩
  obtain ⟨⟨f, d⟩, ⟨hf, hd⟩, i, k⟩ := hs
  obtain ⟨x0, x1, rfl, h0, h1⟩ := i.a2
  dsimp only at hf hd h0 h1 k
  have hn := hf.n
  have hh := hf.h
  have gl : (greats f d).length = f.fields.length + 1 := by unfold greats; rw [List.length_map, List.length_range]
  refine s_forE (l := greats f d) (fD := rowD) (ed_callF (f, d) (ad2 (ed_var rfl h0) (ed_var rfl h1)) ⟨hf, hd⟩) fun a xs H1 e1 ha hx => ?_
  have j1 : Is K H1 x1 (.lst ((List.range (f.fields.length + 1)).map fun i => intsD (labelRow f d i))) := h1.mono e1
  refine ⟨fun i σ' H' => Ex H1 H' ∧ (∃ c1 c2 c3 c4 : Option V, σ' = [some x0, some x1, c1, c2, c3, c4]) ∧ ∀ m, m < i → wrongIn f d m = none, ⟨Ex.refl H1, ⟨none, none, none, none, rfl⟩, fun m hm => by omega⟩, fun i σ' H' p => ⟨p.1 _ _ ha, hx.mono p.1⟩, ?_, ?_⟩
  · rintro i c y σ' Ha Hb hc ic ⟨ex, ⟨c1, c2, c3, c4, rfl⟩, hno⟩ ⟨Ta, o, hT, rfl⟩
    have exn := ex.trans (Ex.new (o := o) hT)
    have hi : i < f.fields.length + 1 := by rw [← gl]; exact (List.getElem?_eq_some_iff.mp hc).1
    have ec : c = greatRow f d i := by
      unfold greats at hc
      rw [List.getElem?_map, List.getElem?_range hi] at hc
      exact (Option.some.inj hc).symm
    subst ec
    have grl := greatRow_length hd hi
    have lrl := labelRow_length hd hi
    rw [rowD_o] at ic
    refine s_forEX (H0 := L2.upd Ha Ta o) (Ex.refl _) (xd_var rfl ic) (fun h σ' H' => Ex (L2.upd Ha Ta o) H' ∧ (∃ c3 c4 : Option V, σ' = [some x0, some x1, some (.int (i : Nat)), some y, c3, c4]) ∧ ∀ m, m < h → wrongAt f d i m = false)
      (fun H2 e2 => ⟨e2, ⟨_, _, rfl⟩, fun m hm => by omega⟩) (fun _ _ _ q => q.1) ?_ ?_
    · rintro h g y2 σ' Ha2 Hb2 hg ig ⟨ex2, ⟨c3, c4, rfl⟩, hno2⟩ ⟨Tb, o2, hT2, rfl⟩
      have exm := ex2.trans (Ex.new (o := o2) hT2)
      cases ig.val
      have hhl : h < f.holes + 1 := by rw [← grl]; exact (List.getElem?_eq_some_iff.mp hg).1
      have eg : (greatRow f d i).getD h none = g := by rw [List.getD_eq_getElem?_getD, hg]; rfl
      have j2 := j1.mono (exn.trans exm)
      have lv : (labelRow f d i)[h]? = some ((labelRow f d i).getD h 0) := getD_some (by rw [lrl]; exact hhl)
      refine s_when (b := wrongAt f d i h) ?_ (fun z H2 e2 => ?_) fun z H2 e2 => ⟨exm.trans e2, ⟨_, _, rfl⟩, fun m hm => ?_⟩
      · unfold wrongAt
        rw [eg]
        cases g with
        | none => exact et_is (et_and (a := false) (b := true) (et_is (et_notN (o := none) (ev_var rfl)) rfl) fun z => by cases z) rfl
        | some m =>
          refine et_is (et_and (a := true) (b := decide (m < (labelRow f d i).getD h 0)) (et_is (et_notN (o := some m) (ev_var rfl)) rfl) fun _ => et_gt (ev_ix (i := (h : Int)) (ed_ix (d := intsD (labelRow f d i)) (i := (i : Int)) (ed_var rfl j2) (ev_var rfl) (atI_nat' ?_)) (ev_var rfl) (atI_nat' ?_)) (ev_var rfl)) (Bool.true_and _)
          · rw [List.getElem?_map, List.getElem?_range hi]
            rfl
          · rw [List.getElem?_map, lv]
            rfl
      · have w1 : wrongIn f d i = some (i, h) := by
          unfold wrongIn
          rw [find_range_first hhl z hno2]
          rfl
        have w2 : firstWrong f d = some (i, h) := some_range_first hi w1 hno
        rw [w2] at k
        exact s_retD' ((e1.trans exn).trans (exm.trans e2)) (ed_lst (ad2 (ed_v (ev_var rfl)) (ed_v (ev_var rfl))) (by simp)) k
      · by_cases q : m < h
        · exact hno2 m q
        · have : m = h := by omega
          rw [this]
          exact z
    · rintro σ' H' ⟨ex2, ⟨c3, c4, rfl⟩, hno2⟩
      refine ⟨exn.trans ex2, ⟨_, _, _, _, rfl⟩, fun m hm => ?_⟩
      by_cases q : m < i
      · exact hno m q
      · have : m = i := by omega
        subst this
        unfold wrongIn
        rw [grl] at hno2
        rw [find_range_none hno2]
        rfl
  · rintro σ' H' ⟨ex, ⟨c1, c2, c3, c4, rfl⟩, hno⟩
    have w2 : firstWrong f d = none := by
      unfold firstWrong
      rw [List.findSome?_eq_none_iff]
      intro m hm
      exact hno m (by rw [gl]; exact List.mem_range.mp hm)
    rw [w2] at k
    exact k .non H' (e1.trans ex) (.v _)
end first_wrong_label
end
end Nt

set_option maxHeartbeats 4000000
namespace L2
open PySem PySem.Spec PyProof.Rows
/-! a call that leaves a list of whole numbers aside; a value called that is one of several defs, by their number -/
/-- .. aside, and behind it as it was -/
def tFrm (te : TE) : TE := fun σ H Q => ∃ (ta : Addr) (ns : List Int), H ta = some (.lst (ns.map V.int)) ∧ te σ (del H ta) fun v H' => H' ta = none → Q v (upd H' ta (.lst (ns.map V.int)))
section
variable {X : Cx} {pins : List (Addr × Obj)} {σ : St} {H : Hp} {s : Shared} {a : Addr} {ob : Obj} {l : List V}
theorem del_off {b : Addr} (n : H b = none) : del H a b = none := if z : b = a then z ▸ del_same else (del_ne z).trans n
theorem del_on {b : Addr} {o : HO} (ha : H a = some (.lst l)) (q : H b = some o) (d : o ≠ .lst l) : del H a b = some o := (del_ne fun z => d (by rw [z, ha] at q; exact (Option.some.inj q).symm)).trans q
theorem upd_on {b : Addr} {o u : HO} (ha : H a = none) (q : H b = some o) : upd H a u b = some o := (upd_ne (ne_of_none q ha)).trans q
/-- a list is told no more, its object is pinned -/
theorem Inv.aside (I : Inv X pins σ H s) (ha : H a = some (.lst l)) (hp : s.heap.get? a = some ob) (nL : a ≠ X.env.locals) (nF : a ∉ X.fs) (nC : ∀ v, ob.data ≠ .cell v) : Inv X ((a, ob) :: pins) σ (del H a) s where
  ok := I.ok
  os := I.os
  bare := I.bare
  loc := I.loc
  cell := I.cell
  len := I.len
  base := { I.base with
    free := fun b o e n hx => del_off (I.base.free b o e n hx)
    tups := fun b xs e => del_on ha (I.base.tups b xs e) nofun
    frzs := fun b o u e => del_on ha (I.base.frzs b o u e) nofun
    tbls := fun b ps e => let ⟨more, q⟩ := I.base.tbls b ps e; ⟨more, del_on ha q nofun⟩ }
  free := del_off I.free
  freeC := fun x c e => del_off (I.freeC x c e)
  pin := fun p hp2 => by
    have old : p ∈ X.pn ++ pins → _ := fun z => let ⟨q1, q2, q3⟩ := I.pin p z; (⟨q1, del_off q2, q3⟩ : s.heap.get? p.1 = some p.2 ∧ del H a p.1 = none ∧ _)
    rcases List.mem_append.mp hp2 with z | z
    · exact old (List.mem_append_left _ z)
    · rcases List.mem_cons.mp z with z | z
      · rw [z]
        exact ⟨hp, del_same, nL, nF, nC⟩
      · exact old (List.mem_append_right _ z)
  hok := fun b o e => by
    have z : b ≠ a := fun z => by rw [z, del_same] at e; cases e
    rw [del_ne z] at e
    exact (I.hok b o e).stay (fun _ _ _ q => q) (fun c q => del_on ha q nofun) fun c xs q => del_on ha q nofun
/-- .. and is told again -/
theorem Inv.back {H2 : Hp} {s2 : Shared} (I : Inv X pins σ H s) (ha : H a = some (.lst l)) (I2 : Inv X ((a, ob) :: pins) σ H2 s2) (n2 : H2 a = none) (new : ObjOk X.prog X.w (upd H2 a (.lst l)) s2.heap a (.lst l)) : Inv X pins σ (upd H2 a (.lst l)) s2 where
  ok := I2.ok
  os := I2.os
  bare := I2.bare
  loc := I2.loc
  cell := I2.cell
  len := I2.len
  base := { I2.base with
    free := fun b o e n hx => (upd_ne (ne_of_none ha (I.base.free b o e n hx)).symm).trans (I2.base.free b o e n hx)
    tups := fun b xs e => upd_on n2 (I2.base.tups b xs e)
    frzs := fun b o u e => upd_on n2 (I2.base.frzs b o u e)
    tbls := fun b ps e => let ⟨more, q⟩ := I2.base.tbls b ps e; ⟨more, upd_on n2 q⟩ }
  free := (upd_ne (ne_of_none ha I.free).symm).trans I2.free
  freeC := fun x c e => (upd_ne (ne_of_none ha (I.freeC x c e)).symm).trans (I2.freeC x c e)
  pin := fun p hp => by
    obtain ⟨q1, q2, q3⟩ := I2.pin p (by
      rcases List.mem_append.mp hp with z | z
      · exact List.mem_append_left _ z
      · exact List.mem_append_right _ (List.mem_cons_of_mem _ z))
    exact ⟨q1, (upd_ne (ne_of_none ha (I.pin p hp).2.1).symm).trans q2, q3⟩
  hok := fun b o e => by
    by_cases z : b = a
    · subst z
      rw [upd_same] at e
      cases e
      exact new
    · rw [upd_ne z] at e
      exact (I2.hok b o e).stay (fun _ _ _ q => q) (fun c q => upd_on n2 q) fun c xs q => upd_on n2 q
end
theorem pe_frm {X : Cx} {e : Expr} {te : TE} (he : PE X e te) : PE X e (tFrm te) := by
  refine ⟨fun pins s σ H Q I ⟨ta, ns, ha, h⟩ => ?_⟩
  obtain ⟨hz, its, n, hv, ho⟩ := id (I.hok ta _ ha)
  have nL : ta ≠ X.env.locals := ne_of_none ha I.free
  have nF : ta ∉ X.fs := fun hb => ne_of_none ha (I.stkFree ta (by
    rcases I.ok.stk with e | ⟨e, _⟩
    · rw [e]; exact hb
    · rw [e]
      obtain ⟨z, hz1, hz2⟩ := List.mem_filterMap.mp (show ta ∈ X.outer.filterMap (·.frame) from hb)
      exact List.mem_filterMap.mpr ⟨z, List.mem_cons_of_mem _ hz1, hz2⟩)) rfl
  refine thn (he.run _ s σ (del H ta) _ (I.aside ha ho nL nF nofun) h) fun u s' ⟨v, H', I2, r, q⟩ => ?_
  have p := I2.pin _ (List.mem_append_right _ List.mem_cons_self)
  exact ⟨v, _, I.back ha I2 p.2.1 ⟨hz, its, n, hv, p.1⟩, r, q p.2.1⟩
/-- a value called that is one of several defs -/
def tCallI {ι : Type} (ok : ι → Prop) (ga : ι → Addr) (spf : ι → Sp) (E : St → XK) (tc : TE) (t : TA) : TE := fun σ H Q => tc σ H fun v H1 => ∃ n, ok n ∧ v = .ref (ga n) ∧ t σ H1 fun vs H2 => spf n vs H2 Q (E σ)
theorem pe_callI {ι : Type} {X : Cx} {CX : CXT} {k : Nat} {ok : ι → Prop} {ga : ι → Addr} {spf : ι → Sp} {E : St → XK} {v1 v2 e : Expr} {es : List Expr} {p1 pos : Pos} {tc : TE} {t : TA}
    (F : ∀ n, ok n → ∃ fd ps, FnOk X.prog X.w X.K X.mg X.base CX k (ga n) fd ps (spf n) ∧ PySem.W.keepIn X.K (.ref (ga n)) = true ∧ Binds X.K fd ps []) (hr : Room k X.A) (hx : ∀ σ, PassesAt CX X σ (E σ)) (hc : PE X (.Subscript v1 v2 p1) tc) (ha : PA X (e :: es) t)
    (h1 : Plain1 X e es := by rfl) (h2 : PlainR X es pos := by rfl) :
    PE X (.Call (.Subscript v1 v2 p1) (e :: es) [] pos) (tCallI ok ga spf E tc t) := by
  refine ⟨fun pins s σ H Q I h => wpAny_bind (m := eval (.Subscript v1 v2 p1) X.env) (thn (hc.run pins s σ H _ I h) fun u s1 ⟨v, H1, I1, r1, n, hg, ev, q⟩ => ?_)⟩
  cases ev
  cases (show u = Value.ref (ga n) from r1)
  obtain ⟨fd, ps, F1, hk, hb⟩ := F n hg
  exact PySem.W.callWith_K (first := []) (h₀ := X.base) I1.ok.mod.kin hk (thn (ha.run pos pins s1 σ H1 _ I1 q) fun us s2 ⟨vs, H2, I2, r, q2⟩ => ⟨I2.kIn, run_fnS F1 hr hb (hx σ) I2 r q2⟩) h1 h2
/-- a def's level may be told higher -/
theorem CalX.at {P : Program} {w : World} {K : PySem.W.Frag} {mg : Str → Option Value} {base : Heap} {k : Nat} {x : Str} {sp : Sp} {a : Addr} (c : CalX P w K mg base k x sp) (hm : mg x = some (.ref a)) :
    ∃ fd ps, FnOk P w K mg base (L2.CX P w) k a fd ps sp ∧ PySem.W.keepIn K (.ref a) = true ∧ Binds K fd ps [] := by
  obtain ⟨f, fd, ps, F, hm2, kp, b⟩ := c.ex
  rw [hm2] at hm
  cases hm
  exact ⟨fd, ps, F, kp, b⟩
theorem takes_no {X : Cx} : Takes X (fun _ _ _ _ => False) := fun _ _ ⟨_, _, _, _, _, _, _, _, _, _, _, _, _, _, _, _, no⟩ => no.elim
end L2

set_option maxHeartbeats 4000000
namespace Nt
open PySem PySem.Spec PyProof.Rows L2 Evl
open C8 (Cal Mak Met pe_c pe_mk pe_mt pe_mt0 pe_gc)
/-! ### the calls as data -/
abbrev VC := Vbenaj.Call
def callNo : VC → Nat
  | .clear => 0 | .file _ => 1 | .look _ => 2 | .text => 3 | .put _ => 4 | .drop _ => 5 | .told => 6 | .least => 7 | .curve => 8 | .count => 9 | .check _ => 10
  | .labels => 11 | .accept _ => 12 | .bound _ => 13 | .price => 14 | .with_ _ _ => 15 | .without _ => 16 | .range _ _ => 17 | .ask _ _ => 18 | .holes _ => 19 | .mean => 20 | .idle _ => 21
def numsOf : VC → List Int
  | .drop i => [i] | .bound p => [p] | .with_ i c => [i, c] | .without i => [i] | .range i c => [i, c] | .ask i n => [i, n] | .holes h => [h] | .idle i => [i] | _ => []
def listsOf : VC → List (List Int)
  | .file t => [t] | .look t => [t] | .put t => [t] | .check r => [r] | .accept d => [d] | _ => []
def givenD (cl : VC) : List D := (numsOf cl).map D.i ++ (listsOf cl).map intsD
def CallOk (cl : VC) : Prop := ∀ l ∈ listsOf cl, l.length ≤ 2000
/-- an own error -/
structure OwnErr (K : PySem.W.Frag) (c : PySem.Str) : Prop where
  xf : XfC K (He.ga K c)
  num : PySem.W.findIn K (.ref (He.ga K c)) "number" = some none
  exm : PySem.W.exmOne K (.ref (He.ga K c)) (.ref (He.ga K "Refusal")) = some true
theorem ErrF.own {K : PySem.W.Frag} {c : PySem.Str} (e : ErrF K c) : OwnErr K c := ⟨e.xf, e.num, e.exm⟩
def RaiseN (K : PySem.W.Frag) (e : Int) (H : Hp) (E : XK) : Prop := ∀ c fs d H', OwnErr K c → fs.lookup ("number" : PySem.Str) = some (V.int e) → Ex H H' → H' d = some (.xd fs) → E (.ref (He.ga K c)) (some d) H'
theorem RaiseN.to {K : PySem.W.Frag} {e : Int} {H : Hp} {E : XK} {c : PySem.Str} {fs : List (PySem.Str × V)} (h : RaiseN K e H E) (o : OwnErr K c) (l : fs.lookup ("number" : PySem.Str) = some (V.int e)) : RaiseK K c fs H E := fun d H' ex hd => h c fs d H' o l ex hd
theorem RaiseN.mono {K : PySem.W.Frag} {e : Int} {H H' : Hp} {E : XK} (ex : Ex H H') (h : RaiseN K e H E) : RaiseN K e H' E := fun c fs d H2 o l e2 hd => h c fs d H2 o l (ex.trans e2) hd
/-- a file at fa, Hb: what else stands -/
structure FA (K : PySem.W.Frag) (fa dx : Addr) (f : NF) (Hb H : Hp) : Prop where
  e : Ex Hb H
  n : Hb fa = none
  i : ∃ fl, H fa = some (.ins (He.ga K "CardFile") dx [("holes", .int f.holes), ("fields", fl)]) ∧ Is K (del H fa) fl (.lst (f.fields.map fieldD))
section
variable {K : PySem.W.Frag} {fa dx : Addr} {f g : NF} {Hb Hb2 H H' : Hp}
theorem ex_del2 {a : Addr} (e : Ex H H') : Ex (del H a) (del H' a) := fun b o h => by
  have nb : b ≠ a := fun z => by rw [z, del_same] at h; cases h
  rw [del_ne nb] at h ⊢
  exact e _ _ h
theorem FA.is (F : FA K fa dx f Hb H) : Is K H (.ref fa) (fileD f) := by
  obtain ⟨fl, h1, h2⟩ := F.i
  exact .ins (xs := [.int f.holes, fl]) h1 rfl (.cons (.v _) (.cons (h2.mono (ex_del H fa)) .nil))
theorem FA.mono (F : FA K fa dx f Hb H) (e : Ex H H') : FA K fa dx f Hb H' := by
  obtain ⟨fl, h1, h2⟩ := F.i
  exact ⟨F.e.trans e, F.n, fl, e _ _ h1, h2.mono (ex_del2 e)⟩
theorem FA.exd (F : FA K fa dx f Hb H) : Ex Hb (del H fa) := ex_to_del F.e F.n
end
def spAns (K : PySem.W.Frag) (n : Nat) : Sp := fun vs H Q E => ∃ (fa dx : Addr) (gv : V) (f : NF) (Hb : Hp) (cl : VC), vs = [.ref fa, gv] ∧ callNo cl = n ∧ FA K fa dx f Hb H ∧ OkF f ∧ CallOk cl ∧ Is K Hb gv (.lst (givenD cl)) ∧
  (∀ e, Vbenaj.run f cl = .error e → RaiseN K e H E) ∧ ∀ g ans, Vbenaj.run f cl = .ok (g, ans) → ∀ x H', FA K fa dx g Hb H' → Is K H' x (intsD ans) → Q x H'
theorem spAns_len {K : PySem.W.Frag} {n : Nat} : ∀ vs H Q E, spAns K n vs H Q E → vs.length = 2 := fun vs H Q E ⟨fa, dx, gv, f, Hb, cl, e, _⟩ => by rw [e]; rfl
theorem s_ans {K : PySem.W.Frag} {σ : L2.St} {D1 : Ends} {te : TE} {fa dx : Addr} {f : NF} {Hb H H1 : Hp} {ans : List Int} (F : FA K fa dx f Hb H) (e : Ex H H1) (h : EvD K te σ H1 (intsD ans)) (q : ∀ x H', FA K fa dx f Hb H' → Is K H' x (intsD ans) → D1.rt x H') : tRet te D1 σ H1 :=
  s_retD h fun x H2 e2 ix => q x H2 (F.mono (e.trans e2)) ix
/-! numbers in a row -/
theorem ed_ints1 {K : PySem.W.Frag} {σ : L2.St} {H : Hp} {t1 : TE} {a : Int} (h1 : Ev t1 σ H (.int a)) : EvD K (tLst (tCons t1 tNil)) σ H (intsD [a]) := ed_lst (ad1 (ed_v h1)) (by simp)
theorem ed_ints2 {K : PySem.W.Frag} {σ : L2.St} {H : Hp} {t1 t2 : TE} {a b : Int} (h1 : Ev t1 σ H (.int a)) (h2 : Ev t2 σ H (.int b)) : EvD K (tLst (tCons t1 (tCons t2 tNil))) σ H (intsD [a, b]) := ed_lst (ad2 (ed_v h1) (ed_v h2)) (by simp)
theorem ed_ints3 {K : PySem.W.Frag} {σ : L2.St} {H : Hp} {t1 t2 t3 : TE} {a b c : Int} (h1 : Ev t1 σ H (.int a)) (h2 : Ev t2 σ H (.int b)) (h3 : Ev t3 σ H (.int c)) : EvD K (tLst (tCons t1 (tCons t2 (tCons t3 tNil)))) σ H (intsD [a, b, c]) := ed_lst (ad3 (ed_v h1) (ed_v h2) (ed_v h3)) (by simp)
theorem ed_ints4 {K : PySem.W.Frag} {σ : L2.St} {H : Hp} {t1 t2 t3 t4 : TE} {a b c d : Int} (h1 : Ev t1 σ H (.int a)) (h2 : Ev t2 σ H (.int b)) (h3 : Ev t3 σ H (.int c)) (h4 : Ev t4 σ H (.int d)) : EvD K (tLst (tCons t1 (tCons t2 (tCons t3 (tCons t4 tNil))))) σ H (intsD [a, b, c, d]) := ed_lst (ad4 (ed_v h1) (ed_v h2) (ed_v h3) (ed_v h4)) (by simp)
theorem ed_iapp {K : PySem.W.Frag} {σ : L2.St} {H : Hp} {ta tb : TE} {xs ys : List Int} (h1 : EvD K ta σ H (intsD xs)) (h2 : EvD K tb σ H (intsD ys)) (hz : xs.length + ys.length ≤ 100000) : EvD K (tOp rCat ta tb) σ H (intsD (xs ++ ys)) := EvD.eq (ed_cat h1 h2 (by rw [List.length_map, List.length_map]; exact hz)) (by unfold intsD; rw [List.map_append])
theorem nats_ints (l : List Nat) : natsD l = intsD (l.map fun n => ((n : Nat) : Int)) := by unfold natsD intsD; rw [List.map_map]; rfl
/-! the given numbers and lists -/
theorem ed_g0n {K : PySem.W.Frag} {σ : L2.St} {H : Hp} {te : TE} {cl : VC} {d : D} {r : List D} (h : EvD K te σ H (.lst (givenD cl))) (e : givenD cl = d :: r) : EvD K (tOp (rIxL K) te (tC (.int 0))) σ H d := by
  rw [e] at h
  exact ed_ix (i := 0) h ev_c (atI_nat' (j := 0) rfl)
theorem ed_g1n {K : PySem.W.Frag} {σ : L2.St} {H : Hp} {te : TE} {cl : VC} {d d2 : D} {r : List D} (h : EvD K te σ H (.lst (givenD cl))) (e : givenD cl = d :: d2 :: r) : EvD K (tOp (rIxL K) te (tC (.int 1))) σ H d2 := by
  rw [e] at h
  exact ed_ix (i := 1) h ev_c (atI_nat' (j := 1) rfl)
section
variable {P : Program} {w : World} {K : PySem.W.Frag} {mg : PySem.Str → Option Value} {base : Heap}
theorem noF_code (T : Txt K mg) (v : NC) : NoC K (He.ga K "CardFile") (codeD v) := .ins T.q_Code_CardFile fun d hd => by
  rcases List.mem_cons.mp hd with e | hd
  · rw [e]; exact .v _
  · rcases List.mem_cons.mp hd with e | hd
    · rw [e]; exact .v _
    · rw [List.mem_singleton.mp hd]; exact .v _
theorem noF_field (T : Txt K mg) (v : NX) : NoC K (He.ga K "CardFile") (fieldD v) := .ins T.q_Field_CardFile fun d hd => by
  rcases List.mem_cons.mp hd with e | hd
  · rw [e]; exact .v _
  · rcases List.mem_cons.mp hd with e | hd
    · rw [e]; exact .v _
    · rw [List.mem_singleton.mp hd]
      exact .lst fun d hd => by
        obtain ⟨c, _, rfl⟩ := List.mem_map.mp hd
        exact noF_code T c
namespace CardFile_become
def sp (K : PySem.W.Frag) : Sp := fun vs H Q _ => ∃ (fa dx : Addr) (y : V) (f g : NF) (Hb : Hp), vs = [.ref fa, y] ∧ FA K fa dx f Hb H ∧ Is K H y (fileD g) ∧ ∀ H', FA K fa dx g Hb H' → Q .non H'
theorem len : ∀ vs H Q E, sp K vs H Q E → vs.length = 2 := fun vs H Q E ⟨fa, dx, y, f, g, Hb, e, _⟩ => by rw [e]; rfl
abbrev sS : Stmt := s_CardFile_become
abbrev nN : List PySem.Str := ["self", "other"]
theorem sc : FnScope nN ["self", "other"] (defScope sS) := ⟨rfl, rfl, rfl, by decide +kernel, rfl, by decide +kernel, by decide +kernel⟩
theorem ok (T : Txt K mg) : Met P w K mg base 1 (He.ga K "CardFile") "become" (sp K) [] := by
  refine met_of T.h_CardFile_become.1 T.k_CardFile.1 T.h_CardFile_become.2 sc len (fun _ _ _ _ _ _ us hl => match us, hl with | [_, _], _ => rfl) fun cdv A outer s H vs Q E hr hs => ⟨_, PSs.nox (pss_cons (ps_fld (pv 0) (pe_fld (pv 1) rfl) rfl) (pss_one (ps_fld (pv 0) (pe_fld (pv 1) rfl) rfl))), ?_⟩
  obtain ⟨fa, dx, y, f, g, Hb, rfl, F, iy, q⟩ := hs
  obtain ⟨fl, hf, il⟩ := F.i
  refine q_fldI (y := .int g.holes) (ed_file_holes T (ed_var rfl iy)) (ev_var rfl) hf T.a_CardFile_holes (by simp) fun H1 e1 => ?_
  have hf1 := e1 _ _ hf
  have iy2 : Is K (upd H1 fa (.ins (He.ga K "CardFile") dx [("holes", .int g.holes), ("fields", fl)])) y (fileD g) := by
    obtain ⟨a, da, xs, rfl, ha, hl, hx⟩ := (iy.mono e1).ins_inv
    obtain ⟨v1, v2, rfl, i1, i2⟩ := hx.a2
    cases i1.val
    have i3 := i2.del hf1 (noW_map (noF_field T) _)
    have ed1 : ∀ o, Ex (del H1 fa) (upd H1 fa o) := fun o b u hb => by
      have nb : b ≠ fa := fun z => by rw [z, del_same] at hb; cases hb
      rw [del_ne nb] at hb
      rw [upd_ne nb]
      exact hb
    by_cases z : a = fa
    · subst z
      rw [hf1] at ha
      have e2 := Option.some.inj ha
      injection e2 with e3 e4 e5
      have e6 : v2 = fl := by
        injection e5 with _ e5
        injection e5 with e5 _
        injection e5 with _ e5
        exact e5.symm
      subst e6
      exact .ins (xs := [.int g.holes, v2]) upd_same rfl (.cons (.v _) (.cons (i3.mono (ed1 _)) .nil))
    · exact .ins (xs := [.int g.holes, v2]) (by rw [upd_ne z]; exact ha) rfl (.cons (.v _) (.cons (i3.mono (ed1 _)) .nil))
  refine s_fldD (d := .lst (g.fields.map fieldD)) (ed_file_fields (f := g) T (ed_var rfl iy2)) (ev_var rfl) upd_same T.a_CardFile_fields (Nat.lt_trans (put_lt (by simp)) (by decide)) fun y2 H2 e2 i2 => ?_
  refine q _ ⟨?_, F.n, y2, ?_, ?_⟩
  · intro b o hb
    have nb := ne_of_none hb F.n
    rw [upd_ne nb]
    refine e2 _ _ ?_
    rw [upd_ne nb]
    exact e1 _ _ (F.e _ _ hb)
  · rw [upd_same]
    rfl
  · rw [del_upd]
    exact i2.del (e2 _ _ upd_same) (noW_map (noF_field T) _)
end CardFile_become
/-- file.fields = .. -/
theorem q_setF (T : Txt K mg) {σ : L2.St} {D1 : Ends} {tz : TS} {ta tv : TE} {fa dx : Addr} {f : NF} {Hb H : Hp} {l : List NX} (F : FA K fa dx f Hb H) (hv : EvD K tv σ H (.lst (l.map fieldD))) (ho : Ev ta σ H (.ref fa))
    (k : ∀ H', FA K fa dx { f with fields := l } Hb H' → tz D1 σ H') : tSeq (sFld K ta tv "fields") tz D1 σ H := by
  obtain ⟨fl, hf, il⟩ := F.i
  refine q_fldD hv ho hf T.a_CardFile_fields (by simp) fun y H1 e1 iy => k _ ⟨?_, F.n, y, ?_, ?_⟩
  · exact Ex.mut (F.e.trans e1) F.n
  · rw [upd_same]
    rfl
  · rw [del_upd]
    exact iy.del (e1 _ _ hf) (noW_map (noF_field T) _)
theorem q_setH (T : Txt K mg) {σ : L2.St} {D1 : Ends} {tz : TS} {ta tv : TE} {fa dx : Addr} {f : NF} {Hb H : Hp} {h : Nat} (F : FA K fa dx f Hb H) (hv : Ev tv σ H (.int (h : Nat))) (ho : Ev ta σ H (.ref fa))
    (k : ∀ H', FA K fa dx { f with holes := h } Hb H' → tz D1 σ H') : tSeq (sFld K ta tv "holes") tz D1 σ H := by
  obtain ⟨fl, hf, il⟩ := F.i
  refine q_fldI hv ho hf T.a_CardFile_holes (by simp) fun H1 e1 => k _ ⟨?_, F.n, fl, ?_, ?_⟩
  · exact Ex.mut (F.e.trans e1) F.n
  · rw [upd_same]
    rfl
  · rw [del_upd]
    exact il.mono (ex_del2 e1)
theorem s_become (T : Txt K mg) {σ : L2.St} {D1 : Ends} {ta tv : TE} {E : XK} {fa dx : Addr} {f g : NF} {Hb H : Hp} (F : FA K fa dx f Hb H) (hv : EvD K tv σ H (fileD g)) (ho : Ev ta σ H (.ref fa))
    (k : ∀ H', FA K fa dx g Hb H' → D1.nx σ H') : tDrop (tMeth (He.ga K "CardFile") "become" (CardFile_become.sp K) [] E ta (tCons tv tNil)) D1 σ H := by
  refine ho H (Ex.refl H) _ fun H1 e1 => ?_
  obtain ⟨fl, hf, il⟩ := F.i
  refine ⟨fa, dx, _, rfl, e1 _ _ hf, rfl, hv H1 e1 _ fun y H2 e2 iy => ?_⟩
  exact ⟨fa, dx, y, f, g, Hb, rfl, F.mono (e1.trans e2), iy, k⟩
theorem q_become (T : Txt K mg) {σ : L2.St} {D1 : Ends} {tz : TS} {ta tv : TE} {E : XK} {fa dx : Addr} {f g : NF} {Hb H : Hp} (F : FA K fa dx f Hb H) (hv : EvD K tv σ H (fileD g)) (ho : Ev ta σ H (.ref fa))
    (k : ∀ H', FA K fa dx g Hb H' → tz D1 σ H') : tSeq (tDrop (tMeth (He.ga K "CardFile") "become" (CardFile_become.sp K) [] E ta (tCons tv tNil))) tz D1 σ H := s_become (D1 := { D1 with nx := tz D1 }) T F hv ho k
end
end Nt

set_option maxHeartbeats 4000000
namespace Nt
open Vbenaj
/-! ### the calls of the specification, by what the program's defs give -/
abbrev ErrIs (c : PySem.Str) : Prop := c = "NotThere" ∨ c = "NotInRange"
theorem ranged_ok {n hi : Int} (h : refuse_out_of_range.res (n, hi) = none) : (0 ≤ n ∧ n ≤ hi) ∧ ranged n 0 hi = .ok n.toNat := by
  unfold refuse_out_of_range.res at h
  dsimp only at h
  by_cases q : 0 ≤ n ∧ n ≤ hi
  · refine ⟨q, ?_⟩
    unfold ranged VbenCore.isBetween
    rw [if_pos (by simp [q.1, q.2])]
  · rw [if_neg q] at h; cases h
theorem ranged_err {n hi : Int} {c : PySem.Str} {fs : List (PySem.Str × L2.V)} (h : refuse_out_of_range.res (n, hi) = some (c, fs)) : ranged n 0 hi = .error (-3) ∧ fs = errF (-3) ∧ ErrIs c := by
  unfold refuse_out_of_range.res at h
  dsimp only at h
  by_cases q : 0 ≤ n ∧ n ≤ hi
  · rw [if_pos q] at h; cases h
  · rw [if_neg q] at h
    cases h
    refine ⟨?_, rfl, .inr rfl⟩
    unfold ranged VbenCore.isBetween
    rw [if_neg (by simp; omega)]
theorem field_ok {f : File} {i : Int} (h : refuse_wrong_field.res (f, i) = none) : ∃ m : Nat, i = (m : Nat) ∧ m < f.fields.length ∧ fieldNo f i = .ok m := by
  obtain ⟨m, rfl, h9, hm⟩ := refuse_wrong_code.field_in h
  refine ⟨m, rfl, hm, ?_⟩
  unfold fieldNo
  rw [(ranged_ok (n := (m : Nat)) (hi := 9) (by unfold refuse_out_of_range.res; rw [if_pos ⟨by omega, by omega⟩])).2]
  show (if ((m : Int).toNat) < f.fields.length then (Except.ok (m : Int).toNat : Res Nat) else _) = _
  rw [Int.toNat_natCast, if_pos hm]
theorem field_err {f : File} {i : Int} {c : PySem.Str} {fs : List (PySem.Str × L2.V)} (h : refuse_wrong_field.res (f, i) = some (c, fs)) : ∃ e, fieldNo f i = .error e ∧ fs = errF e ∧ ErrIs c := by
  unfold refuse_wrong_field.res at h
  dsimp only at h
  unfold fieldNo
  by_cases q : 0 ≤ i ∧ i ≤ 9
  · rw [if_pos q] at h
    by_cases q2 : i < f.fields.length
    · rw [if_pos q2] at h; cases h
    · rw [if_neg q2] at h
      cases h
      refine ⟨-5, ?_, rfl, .inl rfl⟩
      rw [(ranged_ok (n := i) (hi := 9) (by unfold refuse_out_of_range.res; rw [if_pos q])).2]
      show (if i.toNat < f.fields.length then (Except.ok i.toNat : Res Nat) else _) = _
      rw [if_neg (by omega)]
  · rw [if_neg q] at h
    cases h
    refine ⟨-3, ?_, rfl, .inr rfl⟩
    rw [(ranged_err (n := i) (hi := 9) (c := "NotInRange") (fs := errF (-3)) (by unfold refuse_out_of_range.res; rw [if_neg q])).1]
    rfl
theorem code_ok {f : File} {i c : Int} (h : refuse_wrong_code.res (f, i, c) = none) : ∃ m k : Nat, i = (m : Nat) ∧ c = (k : Nat) ∧ m < f.fields.length ∧ k < (fieldAt f m).codes.length ∧ fieldNo f i = .ok m ∧ codeNo f m c = .ok k := by
  unfold refuse_wrong_code.res at h
  dsimp only at h
  cases q0 : refuse_wrong_field.res (f, i) with
  | some z => rw [q0] at h; cases h
  | none =>
    rw [q0] at h
    dsimp only at h
    obtain ⟨m, rfl, hm, hn⟩ := field_ok q0
    rw [Int.toNat_natCast] at h
    by_cases q : 0 ≤ c ∧ c ≤ 7
    · rw [if_pos q] at h
      by_cases q2 : c < (fieldAt f m).codes.length
      · refine ⟨m, c.toNat, rfl, by omega, hm, by omega, hn, ?_⟩
        unfold codeNo
        rw [(ranged_ok (n := c) (hi := 7) (by unfold refuse_out_of_range.res; rw [if_pos q])).2]
        show (if c.toNat < (fieldAt f m).codes.length then (Except.ok c.toNat : Res Nat) else _) = _
        rw [if_pos (by omega)]
      · rw [if_neg q2] at h; cases h
    · rw [if_neg q] at h; cases h
theorem code_err {f : File} {i c : Int} {cl : PySem.Str} {fs : List (PySem.Str × L2.V)} (h : refuse_wrong_code.res (f, i, c) = some (cl, fs)) : ∃ e, fs = errF e ∧ ErrIs cl ∧ (fieldNo f i = .error e ∨ ∃ m, fieldNo f i = .ok m ∧ codeNo f m c = .error e) := by
  unfold refuse_wrong_code.res at h
  dsimp only at h
  cases q0 : refuse_wrong_field.res (f, i) with
  | some z =>
    rw [q0] at h
    cases h
    obtain ⟨e, h1, h2, h3⟩ := field_err q0
    exact ⟨e, h2, h3, .inl h1⟩
  | none =>
    rw [q0] at h
    dsimp only at h
    obtain ⟨m, rfl, hm, hn⟩ := field_ok q0
    rw [Int.toNat_natCast] at h
    by_cases q : 0 ≤ c ∧ c ≤ 7
    · rw [if_pos q] at h
      by_cases q2 : c < (fieldAt f m).codes.length
      · rw [if_pos q2] at h; cases h
      · rw [if_neg q2] at h
        cases h
        refine ⟨-5, rfl, .inl rfl, .inr ⟨m, hn, ?_⟩⟩
        unfold codeNo
        rw [(ranged_ok (n := c) (hi := 7) (by unfold refuse_out_of_range.res; rw [if_pos q])).2]
        show (if c.toNat < (fieldAt f m).codes.length then (Except.ok c.toNat : Res Nat) else _) = _
        rw [if_neg (by omega)]
    · rw [if_neg q] at h
      cases h
      refine ⟨-3, rfl, .inr rfl, .inr ⟨m, hn, ?_⟩⟩
      unfold codeNo
      rw [(ranged_err (n := c) (hi := 7) (c := "NotInRange") (fs := errF (-3)) (by unfold refuse_out_of_range.res; rw [if_neg q])).1]
      rfl
/-! texts -/
theorem textIn_ok {t : List Int} (h : (t.all fun c => VbenCore.isBetween c 0 255) = true) (hl : t.length ≤ 2000) : textIn t = .ok (t.map Int.toNat) := by
  unfold textIn VbenCore.bytesIn
  rw [if_pos ⟨h, hl⟩]
theorem textIn_err {t : List Int} (h : ¬ (t.all fun c => VbenCore.isBetween c 0 255) = true) : textIn t = .error (-1) := by
  unfold textIn VbenCore.bytesIn
  rw [if_neg fun q => h q.1]
theorem text_bytes {t : List Int} (h : (t.all fun c => VbenCore.isBetween c 0 255) = true) : (∀ b ∈ t.map Int.toNat, b < 256) ∧ (t.map Int.toNat).map (fun n => ((n : Nat) : Int)) = t := by
  rw [List.all_eq_true] at h
  refine ⟨fun b hb => ?_, ?_⟩
  · obtain ⟨z, hz, rfl⟩ := List.mem_map.mp hb
    have := h z hz
    unfold VbenCore.isBetween at this
    simp at this
    omega
  · rw [List.map_map]
    refine (List.map_congr_left fun z hz => ?_).trans (List.map_id t)
    have := h z hz
    unfold VbenCore.isBetween at this
    simp at this
    show ((z.toNat : Nat) : Int) = z
    omega
/-! changes -/
theorem without_eq (f : File) (i : Nat) : Vbenaj.without f i = withoutF f i := by
  unfold Vbenaj.without withoutF cutAt
  rw [List.eraseIdx_eq_take_drop_succ]
theorem setAt_get' {α : Type} {l : List α} {i j : Nat} {y : α} (h : i < l.length) : (setAt l i y)[j]? = if j = i then some y else l[j]? := by
  unfold setAt
  have hl : (l.take i).length = i := by rw [List.length_take]; omega
  rcases Nat.lt_trichotomy j i with q | q | q
  · rw [if_neg (by omega), List.append_assoc, List.getElem?_append_left (by omega), List.getElem?_take_of_lt q]
  · rw [if_pos q, q, List.append_assoc, List.getElem?_append_right (by omega), hl, Nat.sub_self]
    rfl
  · rw [if_neg (by omega), List.getElem?_append_right (by simp; omega), List.getElem?_drop]
    congr 1
    simp
    omega
theorem zip_set {α : Type} {l : List α} {i : Nat} {x : α} (g : α → α) (h : l[i]? = some x) : (l.zipIdx.map fun z => if z.2 = i then g z.1 else z.1) = setAt l i (g x) := by
  have hi := (List.getElem?_eq_some_iff.mp h).1
  refine List.ext_getElem? fun j => ?_
  rw [setAt_get' hi, List.getElem?_map, List.getElem?_zipIdx]
  by_cases q : j = i
  · subst q
    rw [h]
    simp
  · rw [if_neg q]
    cases l[j]? with
    | none => rfl
    | some y => simp [q]
theorem fieldAt_some {f : File} {m : Nat} (h : m < f.fields.length) : f.fields[m]? = some (fieldAt f m) := refuse_wrong_code.fieldAt_get h
theorem asking_eq {f : File} {m n : Nat} (h : m < f.fields.length) : asking f m n = { f with fields := setAt f.fields m { fieldAt f m with asked := n } } := by
  exact congrArg (fun l => ({ f with fields := l } : File)) (zip_set (fun x => { x with asked := n }) (fieldAt_some h))
theorem forced_eq {f : File} {m k : Nat} (h : m < f.fields.length) : forced f m k = forcedF f m (fieldAt f m) (codeAt (fieldAt f m) k) := by
  exact congrArg (fun l => ({ f with fields := l } : File)) (zip_set (fun x => { x with codes := [codeAt x k] }) (fieldAt_some h))
theorem forcedPlan_eq {f : File} {m k : Nat} (h : m < f.fields.length) : planRow (least (forced f m k)) (forcedPlan f m k) = planTold f.fields ((leastPlanI (forced f m k)).map fun p => setAt p m k) := by
  cases e : least (forced f m k) with
  | none =>
    rw [leastPlan_none e]
    rfl
  | some v =>
    obtain ⟨e1, e2, e3⟩ := leastPlan_some e
    rw [e2]
    unfold forcedPlan
    rw [e1]
    have hl : (planI (forced f m k).holes (forced f m k).fields (forced f m k).holes).length = f.fields.length := by
      rw [planI_length, forced_eq h]
      show (setAt _ _ _).length = _
      exact setAt_length h
    have hv : v = costL f.fields (setAt (planI (forced f m k).holes (forced f m k).fields (forced f m k).holes) m k) := by
      rw [← e3]
      have h0 : ∀ z ∈ (forced f m k).fields.zip (planI (forced f m k).holes (forced f m k).fields (forced f m k).holes), z.2 < z.1.codes.length := by
        have hv := least_I (forced f m k)
        rw [e] at hv
        exact (planI_cost _ _ _ _ (Nat.le_refl _) hv.symm).2.2
      generalize planI (forced f m k).holes (forced f m k).fields (forced f m k).holes = p at hl h0
      rw [forced_eq h] at h0 ⊢
      have h0' : ∀ z ∈ (setAt f.fields m { fieldAt f m with codes := [codeAt (fieldAt f m) k] }).zip p, z.2 < z.1.codes.length := h0
      show costL (setAt f.fields m { fieldAt f m with codes := [codeAt (fieldAt f m) k] }) p = costL f.fields (setAt p m k)
      unfold costL
      congr 1
      refine List.ext_getElem? fun j => ?_
      rw [List.getElem?_map, List.getElem?_map]
      by_cases hj : j < f.fields.length
      · have a1 : f.fields[j]? = some (fieldAt f j) := fieldAt_some hj
        obtain ⟨pj, a2⟩ : ∃ pj, p[j]? = some pj := ⟨_, List.getElem?_eq_getElem (by omega)⟩
        by_cases q : j = m
        · subst q
          have b1 : ((setAt f.fields j { fieldAt f j with codes := [codeAt (fieldAt f j) k] }).zip p)[j]? = some ({ fieldAt f j with codes := [codeAt (fieldAt f j) k] }, pj) := List.getElem?_zip_eq_some.mpr ⟨by rw [setAt_get' h, if_pos rfl], a2⟩
          have b2 : (f.fields.zip (setAt p j k))[j]? = some (fieldAt f j, k) := List.getElem?_zip_eq_some.mpr ⟨a1, by rw [setAt_get' (by omega), if_pos rfl]⟩
          have b3 := h0' _ (List.mem_of_getElem? b1)
          have b4 : pj = 0 := by
            have : pj < [codeAt (fieldAt f j) k].length := b3
            simp at this
            exact this
          rw [b1, b2, b4]
          rfl
        · have b1 : ((setAt f.fields m { fieldAt f m with codes := [codeAt (fieldAt f m) k] }).zip p)[j]? = some (fieldAt f j, pj) := List.getElem?_zip_eq_some.mpr ⟨by rw [setAt_get' h, if_neg q]; exact a1, a2⟩
          have b2 : (f.fields.zip (setAt p m k))[j]? = some (fieldAt f j, pj) := List.getElem?_zip_eq_some.mpr ⟨a1, by rw [setAt_get' (by omega), if_neg q]; exact a2⟩
          rw [b1, b2]
      · rw [List.getElem?_eq_none (by rw [List.length_zip, setAt_length h]; omega), List.getElem?_eq_none (by rw [List.length_zip]; omega)]
    obtain ⟨x, hx⟩ : ∃ x, (planI (forced f m k).holes (forced f m k).fields (forced f m k).holes)[m]? = some x := ⟨_, List.getElem?_eq_getElem (by omega)⟩
    rw [zip_set (fun _ => k) hx]
    show 1 :: (v : Int) :: listRow _ = 1 :: _ :: _
    rw [hv]
    rfl
/-! the table told -/
theorem numOr_eq (o : Option Nat) : numOr o = (o.map Int.ofNat).getD (-1) := by cases o <;> rfl
theorem row_told (r : List (Option Nat)) : r.map numOr = (toI r).map fun o => o.getD (-1) := by
  unfold toI
  rw [List.map_map]
  exact List.map_congr_left fun o _ => numOr_eq o
theorem labels_told (f : File) : ((table f).flatMap fun r => r.map numOr) = (tabI f.holes f.fields).flatMap fun r => r.map fun o => o.getD (-1) := by
  unfold tabI table
  rw [List.flatMap_map]
  congr 1
  funext r
  exact row_told r
theorem labels_len (f : File) : ((tabI f.holes f.fields).flatMap fun r => r.map fun o => o.getD (-1)).length = (f.fields.length + 1) * (f.holes + 1) := by
  have h1 := tabI_length f.holes f.fields
  have h2 := tabI_rows f.holes f.fields
  generalize tabI f.holes f.fields = l at h1 h2
  rw [← h1]
  clear h1
  induction l with
  | nil => simp
  | cons r l ih =>
    rw [List.flatMap_cons, List.length_append, ih fun z hz => h2 z (List.mem_cons_of_mem _ hz), List.length_map, h2 r List.mem_cons_self, List.length_cons, Nat.succ_mul]
    omega
theorem curve_told (f : File) : ((List.range (f.holes + 1)).map fun h => numOr (at_ (table f) 0 h)) = (rowI f.holes f.fields).map fun o => o.getD (-1) := by
  refine List.ext_getElem? fun j => ?_
  rw [List.getElem?_map, List.getElem?_map]
  by_cases hj : j < f.holes + 1
  · rw [List.getElem?_range hj, getD_some (d := none) (by rw [rowI_length]; exact hj), ← at_I, Option.map_some, Option.map_some, numOr_eq]
  · rw [List.getElem?_eq_none (by rw [List.length_range]; omega), List.getElem?_eq_none (by rw [rowI_length]; omega)]
    rfl
/-! a plan -/
theorem isPlan_eq {f : File} (hf : OkF f) (r : List Int) : ((r.all fun c => VbenCore.isBetween c 0 7) = true ∧ isPlan f (r.map Int.toNat) = true) ↔ isPlanB f.fields r = true := by
  have hc : ∀ x ∈ f.fields, x.codes.length ≤ 8 := fun x hx => (hf.x x hx).n
  unfold isPlan isPlanB
  rw [List.length_map, Bool.and_eq_true, beq_iff_eq]
  generalize f.fields = fs at hc
  by_cases hl : r.length = fs.length
  · rw [if_neg (fun z => z hl)]
    have key : ∀ (fs : List Field) (r : List Int), r.length = fs.length → (∀ x ∈ fs, x.codes.length ≤ 8) → (((r.all fun c => VbenCore.isBetween c 0 7) = true ∧ ((fs.zip (r.map Int.toNat)).all fun z => decide (z.2 < z.1.codes.length)) = true) ↔ ((r.zip fs).all fun z => decide (0 ≤ z.1) && decide (z.1 < z.2.codes.length)) = true) := by
      intro fs
      induction fs with
      | nil =>
        intro r hr _
        cases r with
        | nil => simp
        | cons a r => cases hr
      | cons x fs ih =>
        intro r hr hx
        cases r with
        | nil => cases hr
        | cons a r =>
          have i2 := ih r (by simpa using hr) fun y hy => hx y (List.mem_cons_of_mem _ hy)
          have h8 := hx x List.mem_cons_self
          rw [List.all_cons, List.map_cons, List.zip_cons_cons, List.zip_cons_cons, List.all_cons, List.all_cons, Bool.and_eq_true, Bool.and_eq_true, Bool.and_eq_true, ← i2]
          unfold VbenCore.isBetween
          simp only [Bool.and_eq_true, decide_eq_true_eq]
          constructor
          · rintro ⟨⟨⟨a1, a2⟩, a3⟩, a4, a5⟩
            exact ⟨⟨a1, by omega⟩, a3, a5⟩
          · rintro ⟨⟨a1, a2⟩, a3, a4⟩
            exact ⟨⟨⟨a1, by omega⟩, a3⟩, by omega, a4⟩
    have := key fs r hl hc
    rw [← this]
    simp [hl]
  · rw [if_pos hl]
    simp [hl]
theorem plan_inn {f : File} {r : List Int} (h : isPlanB f.fields r = true) : Inn f.fields (r.map Int.toNat) ∧ (r.map Int.toNat).map (fun n => ((n : Nat) : Int)) = r ∧ r.length = f.fields.length := by
  unfold isPlanB at h
  by_cases hl : r.length = f.fields.length
  · rw [if_neg (fun z => z hl), List.all_eq_true] at h
    have hz : ∀ (i : Nat) (a : Int) x, r[i]? = some a → f.fields[i]? = some x → 0 ≤ a ∧ a < x.codes.length := fun i a x h1 h2 => by
      have := h (a, x) (List.mem_of_getElem? (List.getElem?_zip_eq_some.mpr ⟨h1, h2⟩))
      simpa using this
    refine ⟨fun i x n h1 h2 => ?_, ?_, hl⟩
    · rw [List.getElem?_map] at h2
      cases q : r[i]? with
      | none => rw [q] at h2; cases h2
      | some a =>
        rw [q] at h2
        cases h2
        have := hz i a x q h1
        omega
    · rw [List.map_map]
      refine List.ext_getElem? fun i => ?_
      rw [List.getElem?_map]
      cases q : r[i]? with
      | none => rfl
      | some a =>
        have hi : i < f.fields.length := by rw [← hl]; exact (List.getElem?_eq_some_iff.mp q).1
        have := hz i a _ q (List.getElem?_eq_getElem hi)
        show some (((a.toNat : Nat)) : Int) = some a
        congr 1
        omega
  · rw [if_pos hl] at h; cases h
theorem least_inn {f : File} {p : List Nat} (h : leastPlanI f = some p) : p.length = f.fields.length ∧ Inn f.fields p := by
  refine ⟨leastPlan_len h, ?_⟩
  unfold leastPlanI at h
  split at h
  · cases h
  · rename_i q
    cases h
    obtain ⟨v, hv⟩ := Option.ne_none_iff_exists'.mp q
    have := (planI_cost _ _ _ _ (Nat.le_refl _) hv).2.2
    intro i x n h1 h2
    exact this (x, n) (List.mem_of_getElem? (List.getElem?_zip_eq_some.mpr ⟨h1, h2⟩))
end Nt

set_option maxHeartbeats 4000000
namespace Nt
open PySem PySem.Spec PyProof.Rows L2 Evl
open C8 (Cal Mak Met pe_c pe_mk pe_mt pe_mt0 pe_gc)
theorem cl0 {cl : VC} (h : callNo cl = 0) : cl = .clear := by cases cl <;> first | rfl | (simp [callNo] at h)
theorem cl1 {cl : VC} (h : callNo cl = 1) : ∃ a, cl = .file a := by cases cl <;> first | exact ⟨_, rfl⟩ | (simp [callNo] at h)
theorem cl2 {cl : VC} (h : callNo cl = 2) : ∃ a, cl = .look a := by cases cl <;> first | exact ⟨_, rfl⟩ | (simp [callNo] at h)
theorem cl3 {cl : VC} (h : callNo cl = 3) : cl = .text := by cases cl <;> first | rfl | (simp [callNo] at h)
theorem cl4 {cl : VC} (h : callNo cl = 4) : ∃ a, cl = .put a := by cases cl <;> first | exact ⟨_, rfl⟩ | (simp [callNo] at h)
theorem cl5 {cl : VC} (h : callNo cl = 5) : ∃ a, cl = .drop a := by cases cl <;> first | exact ⟨_, rfl⟩ | (simp [callNo] at h)
theorem cl6 {cl : VC} (h : callNo cl = 6) : cl = .told := by cases cl <;> first | rfl | (simp [callNo] at h)
theorem cl7 {cl : VC} (h : callNo cl = 7) : cl = .least := by cases cl <;> first | rfl | (simp [callNo] at h)
theorem cl8 {cl : VC} (h : callNo cl = 8) : cl = .curve := by cases cl <;> first | rfl | (simp [callNo] at h)
theorem cl9 {cl : VC} (h : callNo cl = 9) : cl = .count := by cases cl <;> first | rfl | (simp [callNo] at h)
theorem cl10 {cl : VC} (h : callNo cl = 10) : ∃ a, cl = .check a := by cases cl <;> first | exact ⟨_, rfl⟩ | (simp [callNo] at h)
theorem cl11 {cl : VC} (h : callNo cl = 11) : cl = .labels := by cases cl <;> first | rfl | (simp [callNo] at h)
theorem cl12 {cl : VC} (h : callNo cl = 12) : ∃ a, cl = .accept a := by cases cl <;> first | exact ⟨_, rfl⟩ | (simp [callNo] at h)
theorem cl13 {cl : VC} (h : callNo cl = 13) : ∃ a, cl = .bound a := by cases cl <;> first | exact ⟨_, rfl⟩ | (simp [callNo] at h)
theorem cl14 {cl : VC} (h : callNo cl = 14) : cl = .price := by cases cl <;> first | rfl | (simp [callNo] at h)
theorem cl15 {cl : VC} (h : callNo cl = 15) : ∃ a b, cl = .with_ a b := by cases cl <;> first | exact ⟨_, _, rfl⟩ | (simp [callNo] at h)
theorem cl16 {cl : VC} (h : callNo cl = 16) : ∃ a, cl = .without a := by cases cl <;> first | exact ⟨_, rfl⟩ | (simp [callNo] at h)
theorem cl17 {cl : VC} (h : callNo cl = 17) : ∃ a b, cl = .range a b := by cases cl <;> first | exact ⟨_, _, rfl⟩ | (simp [callNo] at h)
theorem cl18 {cl : VC} (h : callNo cl = 18) : ∃ a b, cl = .ask a b := by cases cl <;> first | exact ⟨_, _, rfl⟩ | (simp [callNo] at h)
theorem cl19 {cl : VC} (h : callNo cl = 19) : ∃ a, cl = .holes a := by cases cl <;> first | exact ⟨_, rfl⟩ | (simp [callNo] at h)
theorem cl20 {cl : VC} (h : callNo cl = 20) : cl = .mean := by cases cl <;> first | rfl | (simp [callNo] at h)
theorem cl21 {cl : VC} (h : callNo cl = 21) : ∃ a, cl = .idle a := by cases cl <;> first | exact ⟨_, rfl⟩ | (simp [callNo] at h)
theorem bytes_err {t : List Int} {c : PySem.Str} {fs : List (PySem.Str × V)} (h : refuse_wrong_bytes.res t = some (c, fs)) : c = "NotBytes" ∧ fs = errF (-1) ∧ ¬ (t.all fun c => VbenCore.isBetween c 0 255) = true := by
  unfold refuse_wrong_bytes.res at h
  split at h
  · cases h
  · rename_i q
    cases h
    exact ⟨rfl, rfl, q⟩
theorem bytes_ok {t : List Int} (h : refuse_wrong_bytes.res t = none) : (t.all fun c => VbenCore.isBetween c 0 255) = true := by
  unfold refuse_wrong_bytes.res at h
  split at h
  · assumption
  · cases h
theorem fault_look (p : Nat) : (faultF p).lookup ("number" : PySem.Str) = some (V.int (-1000 - (p : Int))) := rfl
theorem given_text {t : List Int} (h : (t.all fun c => VbenCore.isBetween c 0 255) = true) : natsD (t.map Int.toNat) = intsD t := by rw [nats_ints, (text_bytes h).2]
section
variable {P : Program} {w : World} {K : PySem.W.Frag} {mg : PySem.Str → Option Value} {base : Heap}
theorem err_own (T : Txt K mg) {c : PySem.Str} (h : ErrIs c) : OwnErr K c := by
  rcases h with rfl | rfl
  · exact T.e_NotThere.1.own
  · exact T.e_NotInRange.1.own
theorem ed_read_file {σ : L2.St} {H : Hp} {t1 : TE} {E : XK} {t : List Nat} {d : D} (h : EvD K t1 σ H (natsD t)) (ht : t.length ≤ 2000) (hb : ∀ b ∈ t, b < 256) (hE : ∀ p, readFileP t = .error p → RaiseK K "Fault" (faultF p) H E) (hd : ∀ g, readFileP t = .ok g → d = fileD g) :
    EvD K (tCall (read_file.sp K) [] E (tCons t1 tNil)) σ H d := fun H1 e1 Q q => h H1 e1 _ fun x H2 e2 ix => by
  refine ⟨t, ⟨ht, hb⟩, .cons ix .nil, fun p e => (hE p e).mono (e1.trans e2), fun g e y H3 e3 iy => q y H3 (e2.trans e3) ?_⟩
  rw [hd g e]
  exact iy
theorem ed_read_line {σ : L2.St} {H : Hp} {t1 t2 : TE} {E : XK} {t : List Nat} {fs : List NX} {d : D} (h : EvD K t1 σ H (natsD t)) (h2 : EvD K t2 σ H (.lst (fs.map fieldD))) (ht : t.length ≤ 2000) (hb : ∀ b ∈ t, b < 256) (hf : OkFs fs) (hE : ∀ p, readLineP fs t = .error p → RaiseK K "Fault" (faultF p) H E)
    (hd : ∀ fs', readLineP fs t = .ok fs' → d = .lst (fs'.map fieldD)) : EvD K (tCall (read_line.sp K) [] E (tCons t1 (tCons t2 tNil))) σ H d := fun H1 e1 Q q => h H1 e1 _ fun x H2 e2 ix => h2 H2 (e1.trans e2) _ fun y H3 e3 iy => by
  refine ⟨t, fs, ⟨ht, hb⟩, hf, .cons (ix.mono e3) (.cons iy .nil), fun p e => (hE p e).mono ((e1.trans e2).trans e3), fun g e y H4 e4 iz => q y H4 ((e2.trans e3).trans e4) ?_⟩
  rw [hd g e]
  exact iz
/-- a reading that raises -/
def Rz (te : TE) (σ : L2.St) (H : Hp) : Prop := ∀ H1, Ex H H1 → ∀ Q : VK, te σ H1 Q
theorem rz_read_file {σ : L2.St} {H : Hp} {t1 : TE} {E : XK} {t : List Nat} {p : Nat} (h : EvD K t1 σ H (natsD t)) (ht : t.length ≤ 2000) (hb : ∀ b ∈ t, b < 256) (er : readFileP t = .error p) (hE : RaiseK K "Fault" (faultF p) H E) :
    Rz (tCall (read_file.sp K) [] E (tCons t1 tNil)) σ H := fun H1 e1 Q => h H1 e1 _ fun x H2 e2 ix => by
  refine ⟨t, ⟨ht, hb⟩, .cons ix .nil, fun p e => ?_, fun g e => ?_⟩
  · rw [er] at e
    cases e
    exact hE.mono (e1.trans e2)
  · rw [er] at e; cases e
theorem rz_read_line {σ : L2.St} {H : Hp} {t1 t2 : TE} {E : XK} {t : List Nat} {fs : List NX} {p : Nat} (h : EvD K t1 σ H (natsD t)) (h2 : EvD K t2 σ H (.lst (fs.map fieldD))) (ht : t.length ≤ 2000) (hb : ∀ b ∈ t, b < 256) (hf : OkFs fs) (er : readLineP fs t = .error p) (hE : RaiseK K "Fault" (faultF p) H E) :
    Rz (tCall (read_line.sp K) [] E (tCons t1 (tCons t2 tNil))) σ H := fun H1 e1 Q => h H1 e1 _ fun x H2 e2 ix => h2 H2 (e1.trans e2) _ fun y H3 e3 iy => by
  refine ⟨t, fs, ⟨ht, hb⟩, hf, .cons (ix.mono e3) (.cons iy .nil), fun p e => ?_, fun g e => ?_⟩
  · rw [er] at e
    cases e
    exact hE.mono ((e1.trans e2).trans e3)
  · rw [er] at e; cases e
theorem rz_become {σ : L2.St} {H : Hp} {D1 : Ends} {tz : TS} {ta tv : TE} {E : XK} {fa dx : Addr} {f : NF} {Hb : Hp} (F : FA K fa dx f Hb H) (hv : Rz tv σ H) (ho : Ev ta σ H (.ref fa)) :
    tSeq (tDrop (tMeth (He.ga K "CardFile") "become" (CardFile_become.sp K) [] E ta (tCons tv tNil))) tz D1 σ H := by
  refine ho H (Ex.refl H) _ fun H1 e1 => ?_
  obtain ⟨fl, hf, il⟩ := F.i
  exact ⟨fa, dx, _, rfl, e1 _ _ hf, rfl, hv H1 e1 _⟩
theorem ev_xf {σ : L2.St} {H : Hp} {te : TE} {a C dd : Addr} {S : Addr → Prop} {f : PySem.Str} {fs : List (PySem.Str × V)} {v : V} (h : Ev te σ H (.ref a)) (hS : S C) (hd : H dd = some (.xd fs)) (hl : fs.lookup f = some v) : Ev (tXfA a (.ref C) (some dd) S f te) σ H v := fun H1 e Q q =>
  ⟨C, dd, fs, v, ⟨rfl, hS⟩, ⟨rfl, hl⟩, h H1 e _ fun H2 e2 => ⟨rfl, (e.trans e2) _ _ hd, q H2 e2⟩⟩
namespace answer_clear
def sp (K : PySem.W.Frag) : Sp := spAns K 0
theorem len : ∀ vs H Q E, sp K vs H Q E → vs.length = 2 := spAns_len
abbrev sS : Stmt := s_answer_clear
abbrev nN : List PySem.Str := ["file", "given"]
theorem sc : FnScope nN ["file", "given"] (defScope sS) := ⟨rfl, rfl, rfl, by decide +kernel, rfl, by decide +kernel, by decide +kernel⟩
theorem ok (T : Txt K mg) : CalX P w K mg base 3 "answer_clear" (sp K) := by
  have d_CardFile_become := CardFile_become.ok (P := P) (w := w) (base := base) T
  have m_CardFile := CardFile_init.ok (P := P) (w := w) (base := base) T
  refine calx_of T.d_answer_clear.1 T.d_answer_clear.2 sc len (fun _ _ _ _ _ _ us hl => match us, hl with | [_, _], _ => rfl) fun cdv A outer s H vs Q E hr hs => ⟨_, (pss_cons (ps_expr (pe_mt d_CardFile_become hr (by decide) (pv 0) (pa_cons (pe_mk m_CardFile hr (by decide) rfl (pa_cons pe_int (pa_cons (pe_lst pa_nil) pa_nil))) pa_nil))) (pss_one (ps_ret (pe_lst (pa_cons pe_int pa_nil))))), ?_⟩
  obtain ⟨fa, dx, gv, f, Hb, cl, rfl, hc, F, hf, hk, ig, hE, q⟩ := hs
  obtain rfl := cl0 hc
  refine q_become T F (g := Vbenaj.start) (EvD.eq (ed_make (c := "CardFile") (ns := ["holes", "fields"]) (ad2 (ed_v ev_c) (ed_lst ad_nil (by simp))) rfl) rfl) (ev_var rfl) fun H1 F1 => ?_
  exact s_ans F1 (Ex.refl _) (ed_ints1 ev_c) (q _ _ rfl)
end answer_clear
namespace answer_file
def sp (K : PySem.W.Frag) : Sp := spAns K 1
theorem len : ∀ vs H Q E, sp K vs H Q E → vs.length = 2 := spAns_len
theorem run_eq {f : NF} {t : List Int} (h : (t.all fun c => VbenCore.isBetween c 0 255) = true) (hl : t.length ≤ 2000) : Vbenaj.run f (.file t) = (match readFileP (t.map Int.toNat) with
    | .error p => .error (-1000 - (p : Int))
    | .ok g => .ok (g, [(g.holes : Int), (g.fields.length : Int)])) := by
  show (do let b ← Vbenaj.textIn t; _ : Vbenaj.Res _) = _
  rw [textIn_ok h hl, readFileP_eq]
  simp only [bind, Except.bind]
  cases Vbenaj.readFile (t.map Int.toNat) <;> rfl
abbrev sS : Stmt := s_answer_file
abbrev nN : List PySem.Str := ["file", "given"]
theorem sc : FnScope nN ["file", "given"] (defScope sS) := ⟨rfl, rfl, rfl, by decide +kernel, rfl, by decide +kernel, by decide +kernel⟩
theorem ok (T : Txt K mg) : CalX P w K mg base 9 "answer_file" (sp K) := by
  have d_CardFile_become := CardFile_become.ok (P := P) (w := w) (base := base) T
  have d_read_file := read_file.ok (P := P) (w := w) (base := base) T
  have d_refuse_wrong_bytes := refuse_wrong_bytes.ok (P := P) (w := w) (base := base) T
  refine calx_of T.d_answer_file.1 T.d_answer_file.2 sc len (fun _ _ _ _ _ _ us hl => match us, hl with | [_, _], _ => rfl) fun cdv A outer s H vs Q E hr hs => ⟨_, (pss_cons (ps_expr (pe_cX d_refuse_wrong_bytes hr (by decide) rfl (takes_of rfl rfl rfl rfl) (pa_cons (pe_ix ix_list (pv 1) pe_int (fun _ _ => rfl)) pa_nil))) (pss_cons (ps_expr (pe_mt d_CardFile_become hr (by decide) (pv 0) (pa_cons (pe_cX d_read_file hr (by decide) rfl (takes_of rfl rfl rfl rfl) (pa_cons (pe_ix ix_list (pv 1) pe_int (fun _ _ => rfl)) pa_nil)) pa_nil))) (pss_one (ps_ret (pe_lst (pa_cons (pe_fld (pv 0) rfl) (pa_cons (pe_callB call_len_seq (by rfl) T.f_len PySem.boot_len (pa_cons (pe_fld (pv 0) rfl) pa_nil)) pa_nil))))))), ?_⟩
  obtain ⟨fa, dx, gv, f, Hb, cl, rfl, hc, F, hf, hk, ig, hE, q⟩ := hs
  obtain ⟨t, rfl⟩ := cl1 hc
  have hl : t.length ≤ 2000 := hk t List.mem_cons_self
  have i0 := ig.mono F.e
  refine q_callX t (ad1 (ed_g0n (cl := .file t) (ed_var rfl i0) rfl)) (Nat.le_trans hl (by decide)) (fun c fs e => ?_) fun e H1 e1 => ?_
  · obtain ⟨rfl, rfl, hb⟩ := bytes_err e
    exact (hE (-1) (by show (do let b ← Vbenaj.textIn t; _ : Vbenaj.Res _) = _; rw [textIn_err hb]; rfl)).to T.e_NotBytes.1.own rfl
  · have hb := bytes_ok e
    rw [run_eq hb hl] at hE q
    have i1 := i0.mono e1
    have eg : EvD K (tOp (rIxL K) (tVar 1) (tC (.int 0))) [some (.ref fa), some gv] H1 (natsD (t.map Int.toNat)) := by
      rw [given_text hb]
      exact ed_g0n (cl := .file t) (ed_var rfl i1) rfl
    cases er : readFileP (t.map Int.toNat) with
    | error p =>
      rw [er] at hE
      exact rz_become (F.mono e1) (rz_read_file eg (by rw [List.length_map]; exact hl) (text_bytes hb).1 er (((hE _ rfl).mono e1).to T.e_Fault.1.own (fault_look p))) (ev_var rfl)
    | ok g =>
      rw [er] at q
      refine q_become T (F.mono e1) (g := g) (ed_read_file eg (by rw [List.length_map]; exact hl) (text_bytes hb).1 (fun p' e' => ?_) fun g' e' => ?_) (ev_var rfl) fun H2 F2 => ?_
      · rw [er] at e'; cases e'
      · rw [er] at e'
        cases e'
        rfl
      · exact s_ans F2 (Ex.refl _) (ed_ints2 (ed_file_holes T (ed_var rfl F2.is)) (ev_is (ev_lenD (ed_file_fields T (ed_var rfl F2.is))) (by rw [List.length_map]))) (q _ _ rfl)
end answer_file
namespace answer_look
def sp (K : PySem.W.Frag) : Sp := spAns K 2
theorem len : ∀ vs H Q E, sp K vs H Q E → vs.length = 2 := spAns_len
theorem run_eq {f : NF} {t : List Int} (h : (t.all fun c => VbenCore.isBetween c 0 255) = true) (hl : t.length ≤ 2000) : Vbenaj.run f (.look t) = (match readFileP (t.map Int.toNat) with
    | .error p => .ok (f, [1, (p : Int)])
    | .ok g => .ok (f, [0])) := by
  show (do let b ← Vbenaj.textIn t; _ : Vbenaj.Res _) = _
  rw [textIn_ok h hl, readFileP_eq]
  simp only [bind, Except.bind]
  cases Vbenaj.readFile (t.map Int.toNat) <;> rfl
abbrev sS : Stmt := s_answer_look
abbrev nN : List PySem.Str := ["file", "given", "fault"]
theorem sc : FnScope nN ["file", "given"] (defScope sS) := ⟨rfl, rfl, rfl, by decide +kernel, rfl, by decide +kernel, by decide +kernel⟩
theorem ok (T : Txt K mg) : CalX P w K mg base 9 "answer_look" (sp K) := by
  have d_read_file := read_file.ok (P := P) (w := w) (base := base) T
  have d_refuse_wrong_bytes := refuse_wrong_bytes.ok (P := P) (w := w) (base := base) T
  refine calx_of T.d_answer_look.1 T.d_answer_look.2 sc len (fun _ _ _ _ _ _ us hl => match us, hl with | [_, _], _ => rfl) fun cdv A outer s H vs Q E hr hs => ⟨_, (pss_cons (ps_expr (pe_cX d_refuse_wrong_bytes hr (by decide) rfl (takes_of rfl rfl rfl rfl) (pa_cons (pe_ix ix_list (pv 1) pe_int (fun _ _ => rfl)) pa_nil))) (pss_cons (ps_try_as (i := 2) (Wout := (fun cls d _ H => E cls d H)) rfl rfl sc.nd rfl rfl ⟨rfl, by decide, Or.inl T.e_Fault.2⟩ (takes_of rfl rfl rfl rfl) (fun W pn xe wkk _ => (pss_one (ps_expr (pe_cS d_read_file hr (by decide) rfl wkk (pa_cons (pe_ix (ix_listK (K := K) rfl) (pv 1) pe_int (fun _ _ => rfl)) pa_nil))))) (fun a oe cls d pn hz hf => (pss_one (ps_ret (pe_lst (pa_cons pe_int (pa_cons (pe_xfA (S := fun C => C = He.ga K "Fault") (fun _ h => by subst h; exact ⟨T.e_Fault.1.xf, T.n_place⟩) hz hf (pv 2)) pa_nil))))))) (pss_one (ps_ret (pe_lst (pa_cons pe_int pa_nil)))))), ?_⟩
  obtain ⟨fa, dx, gv, f, Hb, cl, rfl, hc, F, hf, hk, ig, hE, q⟩ := hs
  obtain ⟨t, rfl⟩ := cl2 hc
  have hl : t.length ≤ 2000 := hk t List.mem_cons_self
  have i0 := ig.mono F.e
  refine q_callX t (ad1 (ed_g0n (cl := .look t) (ed_var rfl i0) rfl)) (Nat.le_trans hl (by decide)) (fun c fs e => ?_) fun e H1 e1 => ?_
  · obtain ⟨rfl, rfl, hb⟩ := bytes_err e
    exact (hE (-1) (by show (do let b ← Vbenaj.textIn t; _ : Vbenaj.Res _) = _; rw [textIn_err hb]; rfl)).to T.e_NotBytes.1.own rfl
  · have hb := bytes_ok e
    rw [run_eq hb hl] at hE q
    have i1 := i0.mono e1
    have eg : EvD K (tOp (rIxL K) (tVar 1) (tC (.int 0))) [some (.ref fa), some gv, none] H1 (natsD (t.map Int.toNat)) := by
      rw [given_text hb]
      exact ed_g0n (cl := .look t) (ed_var rfl i1) rfl
    refine eg H1 (Ex.refl H1) _ fun x H2 e2 ix => ⟨t.map Int.toNat, ⟨by rw [List.length_map]; exact hl, (text_bytes hb).1⟩, .cons ix .nil, fun p er => ?_, fun g er y H3 e3 iy => ?_⟩
    · rw [er] at q
      intro d H3 e3 hd
      refine ⟨true, T.m_FF, fun _ a ha => ?_, fun z => by cases z⟩
      exact s_ans F ((e1.trans e2).trans e3) (ed_ints2 ev_c (ev_xf (ev_var rfl) rfl hd rfl)) (q _ _ rfl)
    · rw [er] at q
      exact s_ans (σ := [some (.ref fa), some gv, none]) F ((e1.trans e2).trans e3) (ed_ints1 ev_c) (q _ _ rfl)
end answer_look
namespace answer_text
def sp (K : PySem.W.Frag) : Sp := spAns K 3
theorem len : ∀ vs H Q E, sp K vs H Q E → vs.length = 2 := spAns_len
theorem text_len {f : NF} (hf : OkF f) : (Vbenaj.fileText f).length ≤ 40000 := by
  have l1 := linesTo_len hf f.fields.length
  have et : VbenCore.between [10] (linesTo f f.fields.length) = Vbenaj.fileText f := by
    unfold linesTo
    rw [List.take_of_length_le (Nat.le_refl _)]
    rfl
  rw [← et]
  refine Nat.le_trans (between_len _ _) ?_
  show _ + _ * 1 ≤ _
  omega
abbrev sS : Stmt := s_answer_text
abbrev nN : List PySem.Str := ["file", "given"]
theorem sc : FnScope nN ["file", "given"] (defScope sS) := ⟨rfl, rfl, rfl, by decide +kernel, rfl, by decide +kernel, by decide +kernel⟩
theorem ok (T : Txt K mg) : CalX P w K mg base 3 "answer_text" (sp K) := by
  have d_text_of := text_of.ok (P := P) (w := w) (base := base) T
  refine calx_of T.d_answer_text.1 T.d_answer_text.2 sc len (fun _ _ _ _ _ _ us hl => match us, hl with | [_, _], _ => rfl) fun cdv A outer s H vs Q E hr hs => ⟨_, (pss_one (ps_ret (pe_op op_cat (pe_lst (pa_cons pe_int pa_nil)) (pe_c d_text_of hr (by decide) rfl (pa_cons (pv 0) pa_nil))))), ?_⟩
  obtain ⟨fa, dx, gv, f, Hb, cl, rfl, hc, F, hf, hk, ig, hE, q⟩ := hs
  obtain rfl := cl3 hc
  have tl := text_len hf
  exact s_ans F (Ex.refl _) (ed_iapp (xs := [0]) (ed_ints1 ev_c) (EvD.eq (ed_callF f (ad1 (ed_var rfl F.is)) hf) (nats_ints _)) (by rw [List.length_map]; simp; omega)) (q _ _ rfl)
end answer_text
namespace answer_put
def sp (K : PySem.W.Frag) : Sp := spAns K 4
theorem len : ∀ vs H Q E, sp K vs H Q E → vs.length = 2 := spAns_len
theorem run_eq {f : NF} {t : List Int} (h : (t.all fun c => VbenCore.isBetween c 0 255) = true) (hl : t.length ≤ 2000) : Vbenaj.run f (.put t) = (match readLineP f.fields (t.map Int.toNat) with
    | .error p => .error (-1000 - (p : Int))
    | .ok fs => .ok ({ f with fields := fs }, [(fs.length : Int), ((Vbenaj.lastCodes { f with fields := fs }).length : Int)])) := by
  show (do let b ← Vbenaj.textIn t; _ : Vbenaj.Res _) = _
  rw [textIn_ok h hl, readLineP_eq]
  simp only [bind, Except.bind]
  cases Vbenaj.readLine f (t.map Int.toNat) with
  | error p => rfl
  | ok x =>
    have e : ({ f with fields := (Vbenaj.putLine f x).fields } : NF) = Vbenaj.putLine f x := by
      have := putLine_holes f x
      cases hz : Vbenaj.putLine f x
      rw [hz] at this
      have h2 : _ = f.holes := this
      dsimp only at h2 ⊢
      rw [h2]
    dsimp only
    rw [e]
    rfl
abbrev sS : Stmt := s_answer_put
abbrev nN : List PySem.Str := ["file", "given"]
theorem sc : FnScope nN ["file", "given"] (defScope sS) := ⟨rfl, rfl, rfl, by decide +kernel, rfl, by decide +kernel, by decide +kernel⟩
theorem ok (T : Txt K mg) : CalX P w K mg base 9 "answer_put" (sp K) := by
  have d_read_line := read_line.ok (P := P) (w := w) (base := base) T
  have d_refuse_wrong_bytes := refuse_wrong_bytes.ok (P := P) (w := w) (base := base) T
  refine calx_of T.d_answer_put.1 T.d_answer_put.2 sc len (fun _ _ _ _ _ _ us hl => match us, hl with | [_, _], _ => rfl) fun cdv A outer s H vs Q E hr hs => ⟨_, (pss_cons (ps_expr (pe_cX d_refuse_wrong_bytes hr (by decide) rfl (takes_of rfl rfl rfl rfl) (pa_cons (pe_ix ix_list (pv 1) pe_int (fun _ _ => rfl)) pa_nil))) (pss_cons (ps_fld (pv 0) (pe_cX d_read_line hr (by decide) rfl (takes_of rfl rfl rfl rfl) (pa_cons (pe_ix ix_list (pv 1) pe_int (fun _ _ => rfl)) (pa_cons (pe_fld (pv 0) rfl) pa_nil))) rfl) (pss_one (ps_ret (pe_lst (pa_cons (pe_callB call_len_seq (by rfl) T.f_len PySem.boot_len (pa_cons (pe_fld (pv 0) rfl) pa_nil)) (pa_cons (pe_callB call_len_seq (by rfl) T.f_len PySem.boot_len (pa_cons (pe_fld (pe_ix ix_list (pe_fld (pv 0) rfl) (pe_un un_neg pe_int) (fun _ _ => rfl)) rfl) pa_nil)) pa_nil))))))), ?_⟩
  obtain ⟨fa, dx, gv, f, Hb, cl, rfl, hc, F, hf, hk, ig, hE, q⟩ := hs
  obtain ⟨t, rfl⟩ := cl4 hc
  have hl : t.length ≤ 2000 := hk t List.mem_cons_self
  have i0 := ig.mono F.e
  refine q_callX t (ad1 (ed_g0n (cl := .put t) (ed_var rfl i0) rfl)) (Nat.le_trans hl (by decide)) (fun c fs e => ?_) fun e H1 e1 => ?_
  · obtain ⟨rfl, rfl, hb⟩ := bytes_err e
    exact (hE (-1) (by show (do let b ← Vbenaj.textIn t; _ : Vbenaj.Res _) = _; rw [textIn_err hb]; rfl)).to T.e_NotBytes.1.own rfl
  · have hb := bytes_ok e
    rw [run_eq hb hl] at hE q
    have i1 := i0.mono e1
    have F1 := F.mono e1
    have eg : EvD K (tOp (rIxL K) (tVar 1) (tC (.int 0))) [some (.ref fa), some gv] H1 (natsD (t.map Int.toNat)) := by
      rw [given_text hb]
      exact ed_g0n (cl := .put t) (ed_var rfl i1) rfl
    have hof : OkFs f.fields := ⟨hf.n, hf.x⟩
    cases er : readLineP f.fields (t.map Int.toNat) with
    | error p =>
      rw [er] at hE
      exact rz_read_line eg (ed_file_fields T (ed_var rfl F1.is)) (by rw [List.length_map]; exact hl) (text_bytes hb).1 hof er (((hE _ rfl).mono e1).to T.e_Fault.1.own (fault_look p)) H1 (Ex.refl _) _
    | ok fs =>
      rw [er] at q
      obtain ⟨_, hne⟩ := readLineP_ok hof er
      obtain ⟨a, x, rfl⟩ : ∃ a x, fs = a ++ [x] := ⟨_, _, (List.dropLast_concat_getLast hne).symm⟩
      have q' := q _ _ rfl
      rw [lastCodes_snoc (f := { f with fields := a ++ [x] }) rfl] at q'
      refine q_setF T F1 (l := a ++ [x]) (ed_read_line eg (ed_file_fields T (ed_var rfl F1.is)) (by rw [List.length_map]; exact hl) (text_bytes hb).1 hof (fun p e' => ?_) fun g' e' => ?_) (ev_var rfl) fun H2 F2 => ?_
      · rw [er] at e'; cases e'
      · rw [er] at e'
        cases e'
        rfl
      · exact s_ans F2 (Ex.refl _) (ed_ints2 (ev_is (ev_lenD (ed_file_fields T (ed_var rfl F2.is))) (by rw [List.length_map])) (ev_is (ev_lenD (ed_field_codes T (ed_ix (d := fieldD x) (i := -1) (ed_file_fields T (ed_var rfl F2.is)) ev_m1 (by show atI (List.map fieldD (a ++ [x])) (-1) = _; rw [List.map_append]; exact atI_last)))) (by rw [List.length_map]))) q'
end answer_put
namespace answer_drop
def sp (K : PySem.W.Frag) : Sp := spAns K 5
theorem len : ∀ vs H Q E, sp K vs H Q E → vs.length = 2 := spAns_len
theorem run_ok {f : NF} {i : Int} {m : Nat} (h : Vbenaj.fieldNo f i = .ok m) : Vbenaj.run f (.drop i) = .ok (withoutF f m, [((f.fields.length - 1 : Nat) : Int)]) := by
  show (do let i ← Vbenaj.fieldNo f i; _ : Vbenaj.Res _) = _
  rw [h, ← without_eq]
  rfl
theorem run_err {f : NF} {i : Int} {e : Int} (h : Vbenaj.fieldNo f i = .error e) : Vbenaj.run f (.drop i) = .error e := by
  show (do let i ← Vbenaj.fieldNo f i; _ : Vbenaj.Res _) = _
  rw [h]
  rfl
abbrev sS : Stmt := s_answer_drop
abbrev nN : List PySem.Str := ["file", "given", "i"]
theorem sc : FnScope nN ["file", "given"] (defScope sS) := ⟨rfl, rfl, rfl, by decide +kernel, rfl, by decide +kernel, by decide +kernel⟩
theorem ok (T : Txt K mg) : CalX P w K mg base 7 "answer_drop" (sp K) := by
  have d_without_field := without_field.ok (P := P) (w := w) (base := base) T
  have d_refuse_wrong_field := refuse_wrong_field.ok (P := P) (w := w) (base := base) T
  refine calx_of T.d_answer_drop.1 T.d_answer_drop.2 sc len (fun _ _ _ _ _ _ us hl => match us, hl with | [_, _], _ => rfl) fun cdv A outer s H vs Q E hr hs => ⟨_, (pss_cons (ps_set (i := 2) sc.nd rfl (Or.inl rfl) (pe_ix ix_list (pv 1) pe_int (fun _ _ => rfl))) (pss_cons (ps_expr (pe_cX d_refuse_wrong_field hr (by decide) rfl (takes_of rfl rfl rfl rfl) (pa_cons (pv 0) (pa_cons (pv 2) pa_nil)))) (pss_cons (ps_fld (pv 0) (pe_c d_without_field hr (by decide) rfl (pa_cons (pe_fld (pv 0) rfl) (pa_cons (pv 2) pa_nil))) rfl) (pss_one (ps_ret (pe_lst (pa_cons (pe_callB call_len_seq (by rfl) T.f_len PySem.boot_len (pa_cons (pe_fld (pv 0) rfl) pa_nil)) pa_nil))))))), ?_⟩
  obtain ⟨fa, dx, gv, f, Hb, cl, rfl, hc, F, hf, hk, ig, hE, q⟩ := hs
  obtain ⟨n, rfl⟩ := cl5 hc
  have i0 := ig.mono F.e
  refine q_asg (ed_g0n (cl := .drop n) (d := .i n) (ed_var rfl i0) rfl).ev fun H1 e1 => ?_
  have F1 := F.mono e1
  refine q_callX (f, n) (ad2 (ed_var rfl F1.is) (ed_v (ev_var rfl))) trivial (fun c fs e => ?_) fun e H2 e2 => ?_
  · obtain ⟨z, hz, rfl, hcl⟩ := field_err e
    exact ((hE z (run_err hz)).mono e1).to (err_own T hcl) rfl
  · obtain ⟨m, rfl, hm, hz⟩ := field_ok e
    have F2 := F1.mono e2
    have hn := hf.n
    refine q_setF T F2 (l := cutAt f.fields m) (EvD.eq (ed_callF (f.fields, m) (ad2 (ed_file_fields T (ed_var rfl F2.is)) (ed_v (ev_var rfl))) ⟨by show f.fields.length ≤ 1000; omega, hm⟩) rfl) (ev_var rfl) fun H3 F3 => ?_
    refine s_ans F3 (Ex.refl _) (ed_ints1 (ev_is (ev_lenD (ed_file_fields T (ed_var rfl F3.is))) ?_)) (q _ _ (run_ok hz))
    rw [List.length_map]
    show V.int ((cutAt f.fields m).length : Nat) = _
    congr 2
    unfold cutAt
    rw [List.length_append, List.length_take, List.length_drop]
    omega
end answer_drop
namespace answer_told
def sp (K : PySem.W.Frag) : Sp := spAns K 6
theorem len : ∀ vs H Q E, sp K vs H Q E → vs.length = 2 := spAns_len
def toldTo (f : NF) (i : Nat) : List Int := [(f.holes : Int), (f.fields.length : Int)] ++ (f.fields.take i).flatMap fun x => [(x.asked : Int), (x.codes.length : Int)]
theorem run_eq (f : NF) : Vbenaj.run f .told = .ok (f, toldTo f f.fields.length) := by
  show Except.ok (f, VbenCore.ints (f.holes :: f.fields.length :: f.fields.flatMap fun x => [x.asked, x.codes.length])) = _
  unfold toldTo VbenCore.ints
  rw [List.take_of_length_le (Nat.le_refl _)]
  simp [List.map_flatMap]
theorem told_len {f : NF} (hf : OkF f) (i : Nat) : (toldTo f i).length ≤ 22 := by
  have hn := hf.n
  unfold toldTo
  have key : ∀ l : List NX, (l.flatMap fun x => [(x.asked : Int), (x.codes.length : Int)]).length = 2 * l.length := by
    intro l
    induction l with
    | nil => rfl
    | cons a l ih => rw [List.flatMap_cons, List.length_append, ih, List.length_cons]; simp; omega
  rw [List.length_append, key, List.length_take]
  simp
  omega
abbrev sS : Stmt := s_answer_told
abbrev nN : List PySem.Str := ["file", "given", "told", "field"]
theorem sc : FnScope nN ["file", "given"] (defScope sS) := ⟨rfl, rfl, rfl, by decide +kernel, rfl, by decide +kernel, by decide +kernel⟩
theorem ok (T : Txt K mg) : CalX P w K mg base 1 "answer_told" (sp K) := by
  refine calx_of T.d_answer_told.1 T.d_answer_told.2 sc len (fun _ _ _ _ _ _ us hl => match us, hl with | [_, _], _ => rfl) fun cdv A outer s H vs Q E hr hs => ⟨_, (pss_cons (ps_set (i := 2) sc.nd rfl (Or.inl rfl) (pe_lst (pa_cons (pe_fld (pv 0) rfl) (pa_cons (pe_callB call_len_seq (by rfl) T.f_len PySem.boot_len (pa_cons (pe_fld (pv 0) rfl) pa_nil)) pa_nil)))) (pss_cons (ps_for (passes_of rfl) rfl (pi_list (pe_fld (pv 0) rfl)) (pg_name (i := 3) sc.nd rfl (Or.inl rfl)) (pss_one (ps_expr (pe_bm PySem.F.plainAttrs_list PySem.F.slot_list_extend PySem.F.type_list_extend mt_extend (pv 2) (pa_cons (pe_lst (pa_cons (pe_fld (pv 3) rfl) (pa_cons (pe_callB call_len_seq (by rfl) T.f_len PySem.boot_len (pa_cons (pe_fld (pv 3) rfl) pa_nil)) pa_nil))) pa_nil))))) (pss_one (ps_ret (pv 2))))), ?_⟩
  obtain ⟨fa, dx, gv, f, Hb, cl, rfl, hc, F, hf, hk, ig, hE, q⟩ := hs
  obtain rfl := cl6 hc
  refine q_asgL (el_lst (ea_cons (ed_file_holes T (ed_var rfl F.is)) (ea_cons (ev_is (ev_lenD (ed_file_fields T (ed_var rfl F.is))) (by rw [List.length_map])) ea_nil)) (by simp)) fun p H1 hp e1 hp1 => ?_
  refine s_forX e1 (xd_file_fields T (xd_var rfl F.is)) (fun i σ' H' => Ex H H' ∧ H' p = some (.lst ((toldTo f i).map V.int)) ∧ ∃ u, σ' = [some (.ref fa), some gv, some (.ref p), u])
    (fun H2 e2 => ⟨e1.trans e2, e2 _ _ hp1, none, rfl⟩) (fun _ _ _ q => q.1) ?_ ?_
  · rintro i x y σ' H' hx iy ⟨ex, hl, u, rfl⟩
    have hi := (List.getElem?_eq_some_iff.mp hx).1
    have ve : f.fields[i] = x := (List.getElem?_eq_some_iff.mp hx).2
    have et : toldTo f (i + 1) = toldTo f i ++ [(x.asked : Int), (x.codes.length : Int)] := by
      unfold toldTo
      rw [List.take_succ_eq_append_getElem hi, ve, List.flatMap_append]
      simp
    have l1 := told_len hf i
    refine s_extL (D1 := _) (zs := [V.int (x.asked : Int), V.int (x.codes.length : Int)]) hl (ev_var rfl) (el_lst (ea_cons (ed_field_asked T (ed_var rfl (iy.mono ex))) (ea_cons (ev_is (ev_lenD (ed_field_codes T (ed_var rfl (iy.mono ex)))) (by rw [List.length_map])) ea_nil)) (by simp)) (by rw [List.length_map]; simp; omega) fun H3 e3 => ?_
    refine ⟨Ex.mut (ex.trans e3) hp, ?_, _, rfl⟩
    rw [upd_same, et, List.map_append]
    rfl
  · rintro σ' H' ⟨ex, hl, u, rfl⟩
    exact s_ans F ex (EvD.eq (ed_var rfl (Is.vals hl)) (intsD_eq _).symm) (q _ _ (run_eq f))
end answer_told
namespace answer_least
def sp (K : PySem.W.Frag) : Sp := spAns K 7
theorem len : ∀ vs H Q E, sp K vs H Q E → vs.length = 2 := spAns_len
theorem run_eq (f : NF) : Vbenaj.run f .least = .ok (f, planTold f.fields (leastPlanI f)) := by
  show Except.ok (f, Vbenaj.planRow (Vbenaj.least f) (Vbenaj.leastPlan f)) = _
  rw [planRow_least]
abbrev sS : Stmt := s_answer_least
abbrev nN : List PySem.Str := ["file", "given"]
theorem sc : FnScope nN ["file", "given"] (defScope sS) := ⟨rfl, rfl, rfl, by decide +kernel, rfl, by decide +kernel, by decide +kernel⟩
theorem ok (T : Txt K mg) : CalX P w K mg base 6 "answer_least" (sp K) := by
  have d_plan_told := plan_told.ok (P := P) (w := w) (base := base) T
  have d_least_plan := least_plan.ok (P := P) (w := w) (base := base) T
  refine calx_of T.d_answer_least.1 T.d_answer_least.2 sc len (fun _ _ _ _ _ _ us hl => match us, hl with | [_, _], _ => rfl) fun cdv A outer s H vs Q E hr hs => ⟨_, (pss_one (ps_ret (pe_c d_plan_told hr (by decide) rfl (pa_cons (pv 0) (pa_cons (pe_c d_least_plan hr (by decide) rfl (pa_cons (pv 0) pa_nil)) pa_nil))))), ?_⟩
  obtain ⟨fa, dx, gv, f, Hb, cl, rfl, hc, F, hf, hk, ig, hE, q⟩ := hs
  obtain rfl := cl7 hc
  have hn := hf.n
  exact s_ans F (Ex.refl _) (ed_callF (f, leastPlanI f) (ad2 (ed_var rfl F.is) (ed_callF f (ad1 (ed_var rfl F.is)) hf)) ⟨hf, fun p hp => by obtain ⟨a, b⟩ := least_inn hp; exact ⟨by omega, b⟩⟩) (q _ _ (run_eq f))
end answer_least
namespace answer_curve
def sp (K : PySem.W.Frag) : Sp := spAns K 8
theorem len : ∀ vs H Q E, sp K vs H Q E → vs.length = 2 := spAns_len
theorem run_eq (f : NF) : Vbenaj.run f .curve = .ok (f, [((f.holes + 1 : Nat) : Int)] ++ (rowI f.holes f.fields).map fun o => o.getD (-1)) := by
  show Except.ok (f, ((f.holes + 1 : Nat) : Int) :: (List.range (f.holes + 1)).map fun h => Vbenaj.numOr (Vbenaj.at_ (Vbenaj.table f) 0 h)) = _
  rw [curve_told]
  rfl
abbrev sS : Stmt := s_answer_curve
abbrev nN : List PySem.Str := ["file", "given", "costs"]
theorem sc : FnScope nN ["file", "given"] (defScope sS) := ⟨rfl, rfl, rfl, by decide +kernel, rfl, by decide +kernel, by decide +kernel⟩
theorem ok (T : Txt K mg) : CalX P w K mg base 6 "answer_curve" (sp K) := by
  have d_costs_told := costs_told.ok (P := P) (w := w) (base := base) T
  have d_curve := curve.ok (P := P) (w := w) (base := base) T
  refine calx_of T.d_answer_curve.1 T.d_answer_curve.2 sc len (fun _ _ _ _ _ _ us hl => match us, hl with | [_, _], _ => rfl) fun cdv A outer s H vs Q E hr hs => ⟨_, (pss_cons (ps_set (i := 2) sc.nd rfl (Or.inl rfl) (pe_c d_curve hr (by decide) rfl (pa_cons (pv 0) pa_nil))) (pss_one (ps_ret (pe_op op_cat (pe_lst (pa_cons (pe_callB call_len_seq (by rfl) T.f_len PySem.boot_len (pa_cons (pv 2) pa_nil)) pa_nil)) (pe_c d_costs_told hr (by decide) rfl (pa_cons (pv 2) pa_nil)))))), ?_⟩
  obtain ⟨fa, dx, gv, f, Hb, cl, rfl, hc, F, hf, hk, ig, hE, q⟩ := hs
  obtain rfl := cl8 hc
  have hh := hf.h
  have rl := rowI_length f.holes f.fields
  refine q_asgD (ed_callF f (ad1 (ed_var rfl F.is)) hf) fun y H1 e1 iy => ?_
  have iy' : Is K H1 y (rowD (rowI f.holes f.fields)) := iy
  exact s_ans F e1 (ed_iapp (ed_ints1 (ev_is (ev_lenD (ed_var rfl iy')) (by rw [List.length_map, List.length_map, rl]))) (ed_callF (rowI f.holes f.fields) (ad1 (ed_var rfl iy')) (by rw [rl]; omega)) (by rw [List.length_map, rl]; simp; omega)) (q _ _ (run_eq f))
end answer_curve
namespace answer_count
def sp (K : PySem.W.Frag) : Sp := spAns K 9
theorem len : ∀ vs H Q E, sp K vs H Q E → vs.length = 2 := spAns_len
theorem run_eq (f : NF) : Vbenaj.run f .count = .ok (f, [((cntI f.holes f.fields).getD f.holes 0 : Nat)]) := by
  show Except.ok (f, [(Vbenaj.bestCount f : Int)]) = _
  rw [count_eq]
abbrev sS : Stmt := s_answer_count
abbrev nN : List PySem.Str := ["file", "given"]
theorem sc : FnScope nN ["file", "given"] (defScope sS) := ⟨rfl, rfl, rfl, by decide +kernel, rfl, by decide +kernel, by decide +kernel⟩
theorem ok (T : Txt K mg) : CalX P w K mg base 6 "answer_count" (sp K) := by
  have d_least_count := least_count.ok (P := P) (w := w) (base := base) T
  refine calx_of T.d_answer_count.1 T.d_answer_count.2 sc len (fun _ _ _ _ _ _ us hl => match us, hl with | [_, _], _ => rfl) fun cdv A outer s H vs Q E hr hs => ⟨_, (pss_one (ps_ret (pe_lst (pa_cons (pe_c d_least_count hr (by decide) rfl (pa_cons (pv 0) pa_nil)) pa_nil)))), ?_⟩
  obtain ⟨fa, dx, gv, f, Hb, cl, rfl, hc, F, hf, hk, ig, hE, q⟩ := hs
  obtain rfl := cl9 hc
  exact s_ans F (Ex.refl _) (ed_ints1 (ev_callF f (ad1 (ed_var rfl F.is)) hf rfl)) (q _ _ (run_eq f))
end answer_count
namespace answer_check
def sp (K : PySem.W.Frag) : Sp := spAns K 10
theorem len : ∀ vs H Q E, sp K vs H Q E → vs.length = 2 := spAns_len
theorem run_eq {f : NF} (hf : OkF f) (r : List Int) : Vbenaj.run f (.check r) = if isPlanB f.fields r = true then .ok (f, [if usedL f.fields (r.map Int.toNat) ≤ f.holes then 1 else 0, (usedL f.fields (r.map Int.toNat) : Int), (costL f.fields (r.map Int.toNat) : Int)]) else .error (-4) := by
  show (if (r.all fun c => VbenCore.isBetween c 0 7) = true ∧ Vbenaj.isPlan f (r.map Int.toNat) = true then (Except.ok (f, [if Vbenaj.used f (r.map Int.toNat) ≤ f.holes then 1 else 0, (Vbenaj.used f (r.map Int.toNat) : Int), (Vbenaj.costOf f (r.map Int.toNat) : Int)]) : Vbenaj.Res _) else .error (-4)) = _
  rw [used_L, costOf_L]
  by_cases h : isPlanB f.fields r = true
  · rw [if_pos h, if_pos ((isPlan_eq hf r).mpr h)]
  · rw [if_neg h, if_neg fun z => h ((isPlan_eq hf r).mp z)]
abbrev sS : Stmt := s_answer_check
abbrev nN : List PySem.Str := ["file", "given", "row", "holes"]
theorem sc : FnScope nN ["file", "given"] (defScope sS) := ⟨rfl, rfl, rfl, by decide +kernel, rfl, by decide +kernel, by decide +kernel⟩
theorem ok (T : Txt K mg) : CalX P w K mg base 5 "answer_check" (sp K) := by
  have d_plan_cost := plan_cost.ok (P := P) (w := w) (base := base) T
  have d_plan_holes := plan_holes.ok (P := P) (w := w) (base := base) T
  have d_is_plan := is_plan.ok (P := P) (w := w) (base := base) T
  have i_NotAPlan := NotAPlan_init.ok (P := P) (w := w) (base := base) T
  refine calx_of T.d_answer_check.1 T.d_answer_check.2 sc len (fun _ _ _ _ _ _ us hl => match us, hl with | [_, _], _ => rfl) fun cdv A outer s H vs Q E hr hs => ⟨_, (pss_cons (ps_set (i := 2) sc.nd rfl (Or.inl rfl) (pe_ix ix_list (pv 1) pe_int (fun _ _ => rfl))) (pss_cons (ps_if (pt_not (pt_val (pe_c d_is_plan hr (by decide) rfl (pa_cons (pv 0) (pa_cons (pv 2) pa_nil))))) (pss_one (ps_rai0 i_NotAPlan rfl hr (by decide) (by rfl) (takes_of rfl rfl rfl rfl))) pss_nil) (pss_cons (ps_set (i := 3) sc.nd rfl (Or.inl rfl) (pe_c d_plan_holes hr (by decide) rfl (pa_cons (pv 0) (pa_cons (pv 2) pa_nil)))) (pss_one (ps_ret (pe_lst (pa_cons (pe_ifExp (pt_cmpR op_le (pv 3) (pe_fld (pv 0) rfl) (nomark _)) pe_int pe_int) (pa_cons (pv 3) (pa_cons (pe_c d_plan_cost hr (by decide) rfl (pa_cons (pv 0) (pa_cons (pv 2) pa_nil))) pa_nil))))))))), ?_⟩
  obtain ⟨fa, dx, gv, f, Hb, cl, rfl, hc, F, hf, hk, ig, hE, q⟩ := hs
  obtain ⟨r, rfl⟩ := cl10 hc
  have hl : r.length ≤ 2000 := hk r List.mem_cons_self
  have i0 := ig.mono F.e
  rw [run_eq hf] at hE q
  refine q_asgD (ed_g0n (cl := .check r) (d := intsD r) (ed_var rfl i0) rfl) fun y H1 e1 iy => ?_
  have F1 := F.mono e1
  refine q_when (b := !isPlanB f.fields r) (et_not (et_test (ev_callF (f, r) (ad2 (ed_var rfl F1.is) (ed_var rfl iy)) ⟨hf, by show r.length ≤ 40000; omega⟩ rfl))) (fun z H2 e2 => ?_) fun z H2 e2 => ?_
  · have z2 : ¬ isPlanB f.fields r = true := fun h => by rw [h] at z; cases z
    rw [if_neg z2] at hE
    exact s_raise (args := no0 (errF (-4))) T.e_NotAPlan.1.er ea_nil (by simp) rfl ((((hE _ rfl).mono e1).mono e2).to T.e_NotAPlan.1.own rfl)
  · have z2 : isPlanB f.fields r = true := by
      cases h : isPlanB f.fields r with
      | true => rfl
      | false => rw [h] at z; cases z
    rw [if_pos z2] at q
    obtain ⟨hi, hr, hrl⟩ := plan_inn z2
    have F2 := F1.mono e2
    have iy2 : Is K H2 y (natsD (r.map Int.toNat)) := by
      rw [nats_ints, hr]
      exact iy.mono e2
    have pre : OkF f ∧ (r.map Int.toNat).length ≤ 40000 ∧ Inn f.fields (r.map Int.toNat) := ⟨hf, by rw [List.length_map]; omega, hi⟩
    refine q_asg (v := .int (usedL f.fields (r.map Int.toNat) : Nat)) (ev_callF (f, r.map Int.toNat) (ad2 (ed_var rfl F2.is) (ed_var rfl iy2)) pre rfl) fun H3 e3 => ?_
    have F3 := F2.mono e3
    refine s_ans F3 (Ex.refl _) (ed_ints3 (a := if usedL f.fields (r.map Int.toNat) ≤ f.holes then 1 else 0) (ev_if (b := decide (usedL f.fields (r.map Int.toNat) ≤ f.holes)) (et_is (et_le (ev_var rfl) (ed_file_holes T (ed_var rfl F3.is))) (by simp)) (fun z => ?_) fun z => ?_) (ev_var rfl) (ev_callF (f, r.map Int.toNat) (ad2 (ed_var rfl F3.is) (ed_var rfl (iy2.mono e3))) pre rfl)) (q _ _ rfl)
    · rw [if_pos (of_decide_eq_true z)]
      exact ev_c
    · rw [if_neg (of_decide_eq_false z)]
      exact ev_c
end answer_check
end
end Nt

set_option maxHeartbeats 4000000
namespace Nt
open PySem PySem.Spec PyProof.Rows L2 Evl
open C8 (Cal Mak Met pe_c pe_mk pe_mt pe_mt0 pe_gc)
section
variable {P : Program} {w : World} {K : PySem.W.Frag} {mg : PySem.Str → Option Value} {base : Heap}
namespace answer_labels
def sp (K : PySem.W.Frag) : Sp := spAns K 11
theorem len : ∀ vs H Q E, sp K vs H Q E → vs.length = 2 := spAns_len
theorem run_eq (f : NF) : Vbenaj.run f .labels = .ok (f, [(((f.fields.length + 1) * (f.holes + 1) : Nat) : Int)] ++ (tabI f.holes f.fields).flatMap fun r => r.map fun o => o.getD (-1)) := by
  show Except.ok (f, (((f.fields.length + 1) * (f.holes + 1) : Nat) : Int) :: (Vbenaj.table f).flatMap fun r => r.map Vbenaj.numOr) = _
  rw [labels_told]
  rfl
theorem rows_del {H : Hp} {p : Addr} (hp : H p = some (.lst [])) : ∀ {xs : List V} {rs : List Row}, (∀ r ∈ rs, r ≠ []) → IsL K H xs (rs.map rowD) → IsL K (del H p) xs (rs.map rowD)
  | xs, [], _, h => by
    have := h.z0
    subst this
    exact .nil
  | xs, r :: rs, hr, h => by
    obtain ⟨x, ys, rfl, h1, h2⟩ := h.c1
    refine .cons ?_ (rows_del hp (fun z hz => hr z (List.mem_cons_of_mem _ hz)) h2)
    obtain ⟨a, rfl, ha⟩ := h1.vals_inv
    have ne : a ≠ p := fun z => by
      rw [z, hp] at ha
      injection ha with ha
      injection ha with ha
      have := hr r List.mem_cons_self
      cases r with
      | nil => exact this rfl
      | cons _ _ => cases ha
    exact Is.vals (by rw [del_ne ne]; exact ha)
abbrev sS : Stmt := s_answer_labels
abbrev nN : List PySem.Str := ["file", "given", "labels", "row"]
theorem sc : FnScope nN ["file", "given"] (defScope sS) := ⟨rfl, rfl, rfl, by decide +kernel, rfl, by decide +kernel, by decide +kernel⟩
theorem ok (T : Txt K mg) : CalX P w K mg base 5 "answer_labels" (sp K) := by
  have d_table := table.ok (P := P) (w := w) (base := base) T
  have d_costs_told := costs_told.ok (P := P) (w := w) (base := base) T
  refine calx_of T.d_answer_labels.1 T.d_answer_labels.2 sc len (fun _ _ _ _ _ _ us hl => match us, hl with | [_, _], _ => rfl) fun cdv A outer s H vs Q E hr hs => ⟨_, (pss_cons (ps_set (i := 2) sc.nd rfl (Or.inl rfl) (pe_lst pa_nil)) (pss_cons (ps_for (passes_of rfl) rfl (pi_list (pe_c d_table hr (by decide) rfl (pa_cons (pv 0) pa_nil))) (pg_name (i := 3) sc.nd rfl (Or.inl rfl)) (pss_one (ps_expr (pe_bm PySem.F.plainAttrs_list PySem.F.slot_list_extend PySem.F.type_list_extend mt_extend (pv 2) (pa_cons (pe_c d_costs_told hr (by decide) rfl (pa_cons (pv 3) pa_nil)) pa_nil))))) (pss_one (ps_ret (pe_op op_cat (pe_lst (pa_cons (pe_callB call_len_seq (by rfl) T.f_len PySem.boot_len (pa_cons (pv 2) pa_nil)) pa_nil)) (pv 2)))))), ?_⟩
  obtain ⟨fa, dx, gv, f, Hb, cl, rfl, hc, F, hf, hk, ig, hE, q⟩ := hs
  obtain rfl := cl11 hc
  have hh := hf.h
  have hn := hf.n
  have ll := labels_len f
  have lm : (f.fields.length + 1) * (f.holes + 1) ≤ 11 * 61 := Nat.mul_le_mul (by omega) (by omega)
  refine q_asgL (el_lst ea_nil (by simp)) fun p H1 hp e1 hp1 => ?_
  have F1 := F.mono e1
  have key : ∀ H1' : Hp, Ex H1 H1' → EvD K (tCall (table.sp K) [] C8.E0 (tCons (tVar 0) tNil)) [some (.ref fa), some gv, some (.ref p), none] H1' (.lst ((tabI f.holes f.fields).map rowD)) := fun H1' e => ed_callF f (ad1 (ed_var rfl (F1.mono e).is)) hf
  refine s_forD (l := tabI f.holes f.fields) (fD := rowD) (key H1 (Ex.refl _)) fun a xs H2 e2 ha hx => ?_
  have hp2 := e2 _ _ hp1
  have tr := tabI_rows f.holes f.fields
  have tln := tabI_length f.holes f.fields
  have hx' : IsL K (del H2 p) xs ((tabI f.holes f.fields).map rowD) := rows_del hp2 (fun r hr z => by have := tr r hr; rw [z] at this; cases this) hx
  have nap : a ≠ p := fun z => by
    rw [z, hp2] at ha
    injection ha with ha
    injection ha with ha
    have := hx.length
    rw [← ha, List.length_map, tln] at this
    cases this
  have pl : ∀ i, (((tabI f.holes f.fields).take i).flatMap fun r => r.map fun o => o.getD (-1)).length ≤ 671 := fun i => by
    have : ((tabI f.holes f.fields).flatMap fun r => r.map fun o => o.getD (-1)) = (((tabI f.holes f.fields).take i).flatMap fun r => r.map fun o => o.getD (-1)) ++ (((tabI f.holes f.fields).drop i).flatMap fun r => r.map fun o => o.getD (-1)) := by rw [← List.flatMap_append, List.take_append_drop]
    have h2 := congrArg List.length this
    rw [List.length_append, ll] at h2
    omega
  refine ⟨fun i σ' H' => Ex H H' ∧ Ex (del H2 p) (del H' p) ∧ H' p = some (.lst ((((tabI f.holes f.fields).take i).flatMap fun r => r.map fun o => o.getD (-1)).map V.int)) ∧ ∃ u, σ' = [some (.ref fa), some gv, some (.ref p), u], ⟨e1.trans e2, Ex.refl _, hp2, none, rfl⟩, ?_, ?_, ?_⟩
  · rintro i σ' H' ⟨ex, ed, hl, u, rfl⟩
    refine ⟨?_, (hx'.mono ed).mono (ex_del _ _)⟩
    have := ed a (.lst xs) (by rw [del_ne nap]; exact ha)
    rw [del_ne nap] at this
    exact this
  · rintro i r y σ' H' hr iy ⟨ex, ed, hl, u, rfl⟩
    have hi := (List.getElem?_eq_some_iff.mp hr).1
    have ve := (List.getElem?_eq_some_iff.mp hr).2
    have rl := tr r (List.mem_of_getElem? hr)
    have et : (((tabI f.holes f.fields).take (i + 1)).flatMap fun r => r.map fun o => o.getD (-1)) = (((tabI f.holes f.fields).take i).flatMap fun r => r.map fun o => o.getD (-1)) ++ r.map fun o => o.getD (-1) := by
      rw [List.take_succ_eq_append_getElem hi, ve, List.flatMap_append]
      simp
    have l1 := pl i
    refine s_extD (D1 := _) hl (ev_var rfl) (ed_callF r (ad1 (ed_var rfl iy)) (by rw [rl]; omega)) (by rw [List.length_map, List.length_map, List.length_map, rl]; omega) fun zs H3 e3 iz => ?_
    have hz : zs = (r.map fun o => o.getD (-1)).map V.int := by
      have : IsL K H3 zs (((r.map fun o => o.getD (-1)).map V.int).map D.v) := by rw [List.map_map]; exact iz
      exact this.eq_vals
    have hpH : H p = none := hp
    refine ⟨Ex.mut (ex.trans e3) hpH, ?_, ?_, _, rfl⟩
    · rw [del_upd]
      exact ed.trans (ex_del2 e3)
    · rw [upd_same, et, List.map_append, hz]
  · rintro σ' H' ⟨ex, ed, hl, u, rfl⟩
    rw [List.take_length] at hl
    have ip : Is K H' (.ref p) (intsD ((tabI f.holes f.fields).flatMap fun r => r.map fun o => o.getD (-1))) := by
      rw [intsD_eq]
      exact Is.vals hl
    exact s_ans F ex (ed_iapp (ed_ints1 (ev_is (ev_lenD (ed_var rfl ip)) (by rw [List.length_map, ll]))) (ed_var rfl ip) (by rw [ll]; simp; omega)) (q _ _ (run_eq f))
end answer_labels
namespace answer_bound
def sp (K : PySem.W.Frag) : Sp := spAns K 13
theorem len : ∀ vs H Q E, sp K vs H Q E → vs.length = 2 := spAns_len
theorem run_ok {f : NF} {p : Nat} (h : Vbenaj.ranged (p : Nat) 0 1000000000 = .ok p) : Vbenaj.run f (.bound (p : Nat)) = .ok (f, match Vbenaj.bound f p with | none => [0] | some b => [1, b]) := by
  show (do let p ← Vbenaj.ranged (p : Nat) 0 1000000000; _ : Vbenaj.Res _) = _
  rw [h]
  simp only [bind, Except.bind]
  cases Vbenaj.bound f p <;> rfl
theorem run_err {f : NF} {p : Int} {e : Int} (h : Vbenaj.ranged p 0 1000000000 = .error e) : Vbenaj.run f (.bound p) = .error e := by
  show (do let p ← Vbenaj.ranged p 0 1000000000; _ : Vbenaj.Res _) = _
  rw [h]
  rfl
end answer_bound
namespace answer_with_code
def sp (K : PySem.W.Frag) : Sp := spAns K 15
theorem len : ∀ vs H Q E, sp K vs H Q E → vs.length = 2 := spAns_len
theorem run_ok {f : NF} {i c : Int} {m k : Nat} (hm : m < f.fields.length) (h : Vbenaj.fieldNo f i = .ok m) (h2 : Vbenaj.codeNo f m c = .ok k) : Vbenaj.run f (.with_ i c) = .ok (f, planTold f.fields ((leastPlanI (forcedF f m (Vbenaj.fieldAt f m) (Vbenaj.codeAt (Vbenaj.fieldAt f m) k))).map fun p => setAt p m k)) := by
  show (Vbenaj.fieldNo f i >>= fun i => Vbenaj.codeNo f i c >>= fun c => pure (f, Vbenaj.planRow (Vbenaj.least (Vbenaj.forced f i c)) (Vbenaj.forcedPlan f i c)) : Vbenaj.Res _) = _
  rw [h]
  simp only [bind, Except.bind]
  rw [h2, ← forced_eq hm, ← forcedPlan_eq hm]
  rfl
theorem run_err {f : NF} {i c : Int} {e : Int} (h : Vbenaj.fieldNo f i = .error e ∨ ∃ m, Vbenaj.fieldNo f i = .ok m ∧ Vbenaj.codeNo f m c = .error e) : Vbenaj.run f (.with_ i c) = .error e := by
  show (Vbenaj.fieldNo f i >>= fun i => Vbenaj.codeNo f i c >>= fun c => pure (f, Vbenaj.planRow (Vbenaj.least (Vbenaj.forced f i c)) (Vbenaj.forcedPlan f i c)) : Vbenaj.Res _) = _
  rcases h with h | ⟨m, h, h2⟩
  · rw [h]
    rfl
  · rw [h]
    simp only [bind, Except.bind]
    rw [h2]
theorem inn_set {f : NF} {m k : Nat} {p : List Nat} (hm : m < f.fields.length) (hk : k < (Vbenaj.fieldAt f m).codes.length) (hp : leastPlanI (forcedF f m (Vbenaj.fieldAt f m) (Vbenaj.codeAt (Vbenaj.fieldAt f m) k)) = some p) : (setAt p m k).length = f.fields.length ∧ Inn f.fields (setAt p m k) := by
  obtain ⟨h1, h2⟩ := least_inn hp
  have h3 : p.length = f.fields.length := by rw [h1]; exact setAt_length hm
  refine ⟨by rw [setAt_length (by omega)]; exact h3, fun j x n hx hn => ?_⟩
  rw [setAt_get' (by omega)] at hn
  by_cases z : j = m
  · rw [if_pos z] at hn
    cases hn
    rw [z, fieldAt_some hm] at hx
    cases hx
    exact hk
  · rw [if_neg z] at hn
    exact h2 j x n (by show (setAt _ _ _)[j]? = _; rw [setAt_get' hm, if_neg z]; exact hx) hn
abbrev sS : Stmt := s_answer_with_code
abbrev nN : List PySem.Str := ["file", "given", "i", "c"]
theorem sc : FnScope nN ["file", "given"] (defScope sS) := ⟨rfl, rfl, rfl, by decide +kernel, rfl, by decide +kernel, by decide +kernel⟩
theorem ok (T : Txt K mg) : CalX P w K mg base 8 "answer_with_code" (sp K) := by
  have d_plan_told := plan_told.ok (P := P) (w := w) (base := base) T
  have d_least_plan_with := least_plan_with.ok (P := P) (w := w) (base := base) T
  have d_refuse_wrong_code := refuse_wrong_code.ok (P := P) (w := w) (base := base) T
  refine calx_of T.d_answer_with_code.1 T.d_answer_with_code.2 sc len (fun _ _ _ _ _ _ us hl => match us, hl with | [_, _], _ => rfl) fun cdv A outer s H vs Q E hr hs => ⟨_, (pss_cons (ps_set (i := 2) sc.nd rfl (Or.inl rfl) (pe_ix ix_list (pv 1) pe_int (fun _ _ => rfl))) (pss_cons (ps_set (i := 3) sc.nd rfl (Or.inl rfl) (pe_ix ix_list (pv 1) pe_int (fun _ _ => rfl))) (pss_cons (ps_expr (pe_cX d_refuse_wrong_code hr (by decide) rfl (takes_of rfl rfl rfl rfl) (pa_cons (pv 0) (pa_cons (pv 2) (pa_cons (pv 3) pa_nil))))) (pss_one (ps_ret (pe_c d_plan_told hr (by decide) rfl (pa_cons (pv 0) (pa_cons (pe_c d_least_plan_with hr (by decide) rfl (pa_cons (pv 0) (pa_cons (pv 2) (pa_cons (pv 3) pa_nil)))) pa_nil)))))))), ?_⟩
  obtain ⟨fa, dx, gv, f, Hb, cl, rfl, hc, F, hf, hk, ig, hE, q⟩ := hs
  obtain ⟨n, c, rfl⟩ := cl15 hc
  have i0 := ig.mono F.e
  have hn := hf.n
  refine q_asg (ed_g0n (cl := .with_ n c) (d := .i n) (ed_var rfl i0) rfl).ev fun H1 e1 => ?_
  refine q_asg (ed_g1n (cl := .with_ n c) (d := .i n) (d2 := .i c) (ed_var rfl (i0.mono e1)) rfl).ev fun H2 e2 => ?_
  have F2 := (F.mono e1).mono e2
  refine q_callX (f, n, c) (ad3 (ed_var rfl F2.is) (ed_v (ev_var rfl)) (ed_v (ev_var rfl))) trivial (fun c fs e => ?_) fun e H3 e3 => ?_
  · obtain ⟨z, rfl, hcl, hz⟩ := code_err e
    exact (((hE z (run_err hz)).mono e1).mono e2).to (err_own T hcl) rfl
  · obtain ⟨m, k, rfl, rfl, hm, hk2, hz, hz2⟩ := code_ok e
    have F3 := F2.mono e3
    refine s_ans F3 (Ex.refl _) (ed_callF (f, (leastPlanI (forcedF f m (Vbenaj.fieldAt f m) (Vbenaj.codeAt (Vbenaj.fieldAt f m) k))).map fun p => setAt p m k) (ad2 (ed_var rfl F3.is) (ed_callF (f, m, k, Vbenaj.fieldAt f m, Vbenaj.codeAt (Vbenaj.fieldAt f m) k) (ad3 (ed_var rfl F3.is) (ed_v (ev_var rfl)) (ed_v (ev_var rfl))) ⟨hf, fieldAt_some hm, codeAt_get hk2⟩)) ⟨hf, fun p hp => ?_⟩) (q _ _ (run_ok hm hz hz2))
    cases hq : leastPlanI (forcedF f m (Vbenaj.fieldAt f m) (Vbenaj.codeAt (Vbenaj.fieldAt f m) k)) with
    | none =>
      have hp' := hp
      dsimp only at hp'
      rw [hq] at hp'
      cases hp'
    | some p0 =>
      have hp' := hp
      dsimp only at hp'
      rw [hq] at hp'
      cases hp'
      obtain ⟨a, b⟩ := inn_set hm hk2 hq
      exact ⟨by show (setAt p0 m k).length ≤ 1000; omega, b⟩
end answer_with_code
namespace answer_without
def sp (K : PySem.W.Frag) : Sp := spAns K 16
theorem len : ∀ vs H Q E, sp K vs H Q E → vs.length = 2 := spAns_len
theorem run_ok {f : NF} {i : Int} {m : Nat} (h : Vbenaj.fieldNo f i = .ok m) : Vbenaj.run f (.without i) = .ok (f, planTold (withoutF f m).fields (leastPlanI (withoutF f m))) := by
  show (do let i ← Vbenaj.fieldNo f i; _ : Vbenaj.Res _) = _
  rw [h]
  simp only [bind, Except.bind]
  rw [without_eq, planRow_least]
  rfl
theorem run_err {f : NF} {i : Int} {e : Int} (h : Vbenaj.fieldNo f i = .error e) : Vbenaj.run f (.without i) = .error e := by
  show (do let i ← Vbenaj.fieldNo f i; _ : Vbenaj.Res _) = _
  rw [h]
  rfl
abbrev sS : Stmt := s_answer_without
abbrev nN : List PySem.Str := ["file", "given", "i", "other"]
theorem sc : FnScope nN ["file", "given"] (defScope sS) := ⟨rfl, rfl, rfl, by decide +kernel, rfl, by decide +kernel, by decide +kernel⟩
theorem ok (T : Txt K mg) : CalX P w K mg base 7 "answer_without" (sp K) := by
  have d_plan_told := plan_told.ok (P := P) (w := w) (base := base) T
  have d_least_plan := least_plan.ok (P := P) (w := w) (base := base) T
  have m_CardFile := CardFile_init.ok (P := P) (w := w) (base := base) T
  have d_without_field := without_field.ok (P := P) (w := w) (base := base) T
  have d_refuse_wrong_field := refuse_wrong_field.ok (P := P) (w := w) (base := base) T
  refine calx_of T.d_answer_without.1 T.d_answer_without.2 sc len (fun _ _ _ _ _ _ us hl => match us, hl with | [_, _], _ => rfl) fun cdv A outer s H vs Q E hr hs => ⟨_, (pss_cons (ps_set (i := 2) sc.nd rfl (Or.inl rfl) (pe_ix ix_list (pv 1) pe_int (fun _ _ => rfl))) (pss_cons (ps_expr (pe_cX d_refuse_wrong_field hr (by decide) rfl (takes_of rfl rfl rfl rfl) (pa_cons (pv 0) (pa_cons (pv 2) pa_nil)))) (pss_cons (ps_set (i := 3) sc.nd rfl (Or.inl rfl) (pe_mk m_CardFile hr (by decide) rfl (pa_cons (pe_fld (pv 0) rfl) (pa_cons (pe_c d_without_field hr (by decide) rfl (pa_cons (pe_fld (pv 0) rfl) (pa_cons (pv 2) pa_nil))) pa_nil)))) (pss_one (ps_ret (pe_c d_plan_told hr (by decide) rfl (pa_cons (pv 3) (pa_cons (pe_c d_least_plan hr (by decide) rfl (pa_cons (pv 3) pa_nil)) pa_nil)))))))), ?_⟩
  obtain ⟨fa, dx, gv, f, Hb, cl, rfl, hc, F, hf, hk, ig, hE, q⟩ := hs
  obtain ⟨n, rfl⟩ := cl16 hc
  have i0 := ig.mono F.e
  have hn := hf.n
  refine q_asg (ed_g0n (cl := .without n) (d := .i n) (ed_var rfl i0) rfl).ev fun H1 e1 => ?_
  have F1 := F.mono e1
  refine q_callX (f, n) (ad2 (ed_var rfl F1.is) (ed_v (ev_var rfl))) trivial (fun c fs e => ?_) fun e H2 e2 => ?_
  · obtain ⟨z, hz, rfl, hcl⟩ := field_err e
    exact ((hE z (run_err hz)).mono e1).to (err_own T hcl) rfl
  · obtain ⟨m, rfl, hm, hz⟩ := field_ok e
    have F2 := F1.mono e2
    refine q_asgD (d := fileD (withoutF f m)) (ed_make (ad2 (ed_v (ed_file_holes (f := f) T (ed_var rfl F2.is))) (ed_callF (f.fields, m) (ad2 (ed_file_fields (f := f) T (ed_var rfl F2.is)) (ed_v (ev_var rfl))) ⟨by show f.fields.length ≤ 1000; omega, hm⟩)) rfl) fun y H3 e3 iy => ?_
    have hw := cutAt_ok hf m
    have hwn := hw.n
    exact s_ans F2 e3 (ed_callF (withoutF f m, leastPlanI (withoutF f m)) (ad2 (ed_var rfl iy) (ed_callF (withoutF f m) (ad1 (ed_var rfl iy)) hw)) ⟨hw, fun p hp => by obtain ⟨a, b⟩ := least_inn hp; exact ⟨by omega, b⟩⟩) (q _ _ (run_ok hz))
end answer_without
namespace answer_ask
def sp (K : PySem.W.Frag) : Sp := spAns K 18
theorem len : ∀ vs H Q E, sp K vs H Q E → vs.length = 2 := spAns_len
theorem run_ok {f : NF} {i n : Int} {m k : Nat} (hm : m < f.fields.length) (h : Vbenaj.fieldNo f i = .ok m) (h2 : Vbenaj.ranged n 0 1000 = .ok k) : Vbenaj.run f (.ask i n) = .ok ({ f with fields := setAt f.fields m { Vbenaj.fieldAt f m with asked := k } }, [((Vbenaj.fieldAt f m).asked : Int)]) := by
  show (Vbenaj.fieldNo f i >>= fun i => Vbenaj.ranged n 0 1000 >>= fun n => pure (Vbenaj.asking f i n, [((Vbenaj.fieldAt f i).asked : Int)]) : Vbenaj.Res _) = _
  rw [h]
  simp only [bind, Except.bind]
  rw [h2, ← asking_eq hm]
  rfl
theorem run_err {f : NF} {i n : Int} {e : Int} (h : Vbenaj.fieldNo f i = .error e ∨ ∃ m, Vbenaj.fieldNo f i = .ok m ∧ Vbenaj.ranged n 0 1000 = .error e) : Vbenaj.run f (.ask i n) = .error e := by
  show (Vbenaj.fieldNo f i >>= fun i => Vbenaj.ranged n 0 1000 >>= fun n => pure (Vbenaj.asking f i n, [((Vbenaj.fieldAt f i).asked : Int)]) : Vbenaj.Res _) = _
  rcases h with h | ⟨m, h, h2⟩
  · rw [h]
    rfl
  · rw [h]
    simp only [bind, Except.bind]
    rw [h2]
abbrev sS : Stmt := s_answer_ask
abbrev nN : List PySem.Str := ["file", "given", "i", "asked", "before"]
theorem sc : FnScope nN ["file", "given"] (defScope sS) := ⟨rfl, rfl, rfl, by decide +kernel, rfl, by decide +kernel, by decide +kernel⟩
theorem ok (T : Txt K mg) : CalX P w K mg base 7 "answer_ask" (sp K) := by
  have d_with_asked := with_asked.ok (P := P) (w := w) (base := base) T
  have d_refuse_out_of_range := refuse_out_of_range.ok (P := P) (w := w) (base := base) T
  have d_refuse_wrong_field := refuse_wrong_field.ok (P := P) (w := w) (base := base) T
  refine calx_of T.d_answer_ask.1 T.d_answer_ask.2 sc len (fun _ _ _ _ _ _ us hl => match us, hl with | [_, _], _ => rfl) fun cdv A outer s H vs Q E hr hs => ⟨_, (pss_cons (ps_set (i := 2) sc.nd rfl (Or.inl rfl) (pe_ix ix_list (pv 1) pe_int (fun _ _ => rfl))) (pss_cons (ps_set (i := 3) sc.nd rfl (Or.inl rfl) (pe_ix ix_list (pv 1) pe_int (fun _ _ => rfl))) (pss_cons (ps_expr (pe_cX d_refuse_wrong_field hr (by decide) rfl (takes_of rfl rfl rfl rfl) (pa_cons (pv 0) (pa_cons (pv 2) pa_nil)))) (pss_cons (ps_expr (pe_cX d_refuse_out_of_range hr (by decide) rfl (takes_of rfl rfl rfl rfl) (pa_cons (pv 3) (pa_cons (pe_gc rfl T.c_MOST_ASKED) pa_nil)))) (pss_cons (ps_set (i := 4) sc.nd rfl (Or.inl rfl) (pe_fld (pe_ix ix_list (pe_fld (pv 0) rfl) (pv 2) (fun _ _ => rfl)) rfl)) (pss_cons (ps_fld (pv 0) (pe_c d_with_asked hr (by decide) rfl (pa_cons (pe_fld (pv 0) rfl) (pa_cons (pv 2) (pa_cons (pv 3) pa_nil)))) rfl) (pss_one (ps_ret (pe_lst (pa_cons (pv 4) pa_nil)))))))))), ?_⟩
  obtain ⟨fa, dx, gv, f, Hb, cl, rfl, hc, F, hf, hk, ig, hE, q⟩ := hs
  obtain ⟨n, c, rfl⟩ := cl18 hc
  have i0 := ig.mono F.e
  have hn := hf.n
  refine q_asg (ed_g0n (cl := .ask n c) (d := .i n) (ed_var rfl i0) rfl).ev fun H1 e1 => ?_
  refine q_asg (ed_g1n (cl := .ask n c) (d := .i n) (d2 := .i c) (ed_var rfl (i0.mono e1)) rfl).ev fun H2 e2 => ?_
  have F2 := (F.mono e1).mono e2
  refine q_callX (f, n) (ad2 (ed_var rfl F2.is) (ed_v (ev_var rfl))) trivial (fun c fs e => ?_) fun e H3 e3 => ?_
  · obtain ⟨z, hz, rfl, hcl⟩ := field_err e
    exact (((hE z (run_err (.inl hz))).mono e1).mono e2).to (err_own T hcl) rfl
  · obtain ⟨m, rfl, hm, hz⟩ := field_ok e
    refine q_callX (c, 1000) (ad2 (ed_v (ev_var rfl)) (ed_v ev_c)) trivial (fun c' fs e => ?_) fun e H4 e4 => ?_
    · obtain ⟨h2, rfl, hcl⟩ := ranged_err e
      exact ((((hE _ (run_err (.inr ⟨m, hz, h2⟩))).mono e1).mono e2).mono e3).to (err_own T hcl) rfl
    · obtain ⟨hc2, h2⟩ := ranged_ok e
      obtain ⟨k, rfl⟩ : ∃ k : Nat, c = (k : Nat) := ⟨c.toNat, by omega⟩
      rw [Int.toNat_natCast] at h2
      have F4 := (F2.mono e3).mono e4
      have hx := fieldAt_some hm
      refine q_asg (v := .int ((Vbenaj.fieldAt f m).asked : Nat)) (ed_field_asked T (ed_field (ed_file_fields T (ed_var rfl F4.is)) (ev_var rfl) rfl hx)) fun H5 e5 => ?_
      have F5 := F4.mono e5
      refine q_setF T F5 (l := setAt f.fields m { Vbenaj.fieldAt f m with asked := k }) (EvD.eq (ed_callF (f.fields, m, k, Vbenaj.fieldAt f m) (ad3 (ed_file_fields T (ed_var rfl F5.is)) (ed_v (ev_var rfl)) (ed_v (ev_var rfl))) ⟨by show f.fields.length ≤ 1000; omega, hx⟩) rfl) (ev_var rfl) fun H6 F6 => ?_
      exact s_ans F6 (Ex.refl _) (ed_ints1 (ev_var rfl)) (q _ _ (run_ok hm hz h2))
end answer_ask
namespace answer_holes
def sp (K : PySem.W.Frag) : Sp := spAns K 19
theorem len : ∀ vs H Q E, sp K vs H Q E → vs.length = 2 := spAns_len
theorem run_ok {f : NF} {h : Int} {k : Nat} (h2 : Vbenaj.ranged h 0 60 = .ok k) : Vbenaj.run f (.holes h) = .ok ({ f with holes := k }, [(f.holes : Int)]) := by
  show (do let h ← Vbenaj.ranged h 0 60; _ : Vbenaj.Res _) = _
  rw [h2]
  rfl
theorem run_err {f : NF} {h : Int} {e : Int} (h2 : Vbenaj.ranged h 0 60 = .error e) : Vbenaj.run f (.holes h) = .error e := by
  show (do let h ← Vbenaj.ranged h 0 60; _ : Vbenaj.Res _) = _
  rw [h2]
  rfl
abbrev sS : Stmt := s_answer_holes
abbrev nN : List PySem.Str := ["file", "given", "before"]
theorem sc : FnScope nN ["file", "given"] (defScope sS) := ⟨rfl, rfl, rfl, by decide +kernel, rfl, by decide +kernel, by decide +kernel⟩
theorem ok (T : Txt K mg) : CalX P w K mg base 6 "answer_holes" (sp K) := by
  have d_refuse_out_of_range := refuse_out_of_range.ok (P := P) (w := w) (base := base) T
  refine calx_of T.d_answer_holes.1 T.d_answer_holes.2 sc len (fun _ _ _ _ _ _ us hl => match us, hl with | [_, _], _ => rfl) fun cdv A outer s H vs Q E hr hs => ⟨_, (pss_cons (ps_expr (pe_cX d_refuse_out_of_range hr (by decide) rfl (takes_of rfl rfl rfl rfl) (pa_cons (pe_ix ix_list (pv 1) pe_int (fun _ _ => rfl)) (pa_cons (pe_gc rfl T.c_MOST_HOLES) pa_nil)))) (pss_cons (ps_set (i := 2) sc.nd rfl (Or.inl rfl) (pe_fld (pv 0) rfl)) (pss_cons (ps_fld (pv 0) (pe_ix ix_list (pv 1) pe_int (fun _ _ => rfl)) rfl) (pss_one (ps_ret (pe_lst (pa_cons (pv 2) pa_nil))))))), ?_⟩
  obtain ⟨fa, dx, gv, f, Hb, cl, rfl, hc, F, hf, hk, ig, hE, q⟩ := hs
  obtain ⟨h, rfl⟩ := cl19 hc
  have i0 := ig.mono F.e
  refine q_callX (h, 60) (ad2 (ed_g0n (cl := .holes h) (ed_var rfl i0) rfl) (ed_v ev_c)) trivial (fun c fs e => ?_) fun e H1 e1 => ?_
  · obtain ⟨h2, rfl, hcl⟩ := ranged_err e
    exact (hE _ (run_err h2)).to (err_own T hcl) rfl
  · obtain ⟨hc2, h2⟩ := ranged_ok e
    obtain ⟨k, rfl⟩ : ∃ k : Nat, h = (k : Nat) := ⟨h.toNat, by omega⟩
    rw [Int.toNat_natCast] at h2
    have F1 := F.mono e1
    refine q_asg (ed_file_holes T (ed_var rfl F1.is)) fun H2 e2 => ?_
    have F2 := F1.mono e2
    refine q_setH T F2 (h := k) (ed_g0n (cl := .holes (k : Nat)) (d := .i (k : Nat)) (ed_var rfl ((i0.mono e1).mono e2)) rfl).ev (ev_var rfl) fun H3 F3 => ?_
    exact s_ans F3 (Ex.refl _) (ed_ints1 (ev_var rfl)) (q _ _ (run_ok h2))
end answer_holes
end
end Nt

set_option maxHeartbeats 4000000
namespace Nt
open Vbenaj
/-! ### the bound by a price -/
theorem cheapest_I (x : Field) (p : Nat) : cheapestI x p = (cheapest x p).map Int.ofNat := by
  unfold cheapestI cheapest leastOf
  rw [List.foldl_map]
  have key : ∀ (l : List Code) (m : Option Nat), l.foldl (fun m c => lesserI m (some ((x.asked * c.cost + p * c.holes : Nat) : Int))) (m.map Int.ofNat) =
      (l.foldl (fun m c => lesser m (some (paid x c + p * c.holes))) m).map Int.ofNat := by
    intro l
    induction l with
    | nil => intro m; rfl
    | cons c l ih =>
      intro m
      rw [List.foldl_cons, List.foldl_cons, ← ih, lesser_toI]
      rfl
  exact key x.codes none
def stepB (p : Nat) (a : Option Nat) (x : Field) : Option Nat := match a, cheapest x p with
  | some m, some n => some (m + n)
  | _, _ => none
theorem foldl_none (p : Nat) : ∀ l : List Field, l.foldl (stepB p) none = none
  | [] => rfl
  | x :: l => foldl_none p l
theorem bound_fold (p : Nat) : ∀ (l : List Field) (a : Nat), l.foldl (stepB p) (some a) = if none ∈ l.map (fun x => cheapestI x p) then none else some (a + (l.map fun x => ((cheapest x p).getD 0)).sum)
  | [], a => by simp
  | x :: l, a => by
    rw [List.foldl_cons, List.map_cons, List.map_cons, List.sum_cons]
    unfold stepB
    cases h : cheapest x p with
    | none =>
      dsimp only
      have := foldl_none p l
      unfold stepB at this
      rw [this, if_pos]
      rw [cheapest_I, h]
      exact List.mem_cons_self
    | some n =>
      dsimp only
      have := bound_fold p l (a + n)
      unfold stepB at this
      rw [this, cheapest_I x, h]
      by_cases q : none ∈ l.map (fun x => cheapestI x p)
      · rw [if_pos q, if_pos (List.mem_cons_of_mem _ q)]
      · rw [if_neg q, if_neg (by
          intro z
          rcases List.mem_cons.mp z with z | z
          · cases z
          · exact q z)]
        congr 1
        show a + n + _ = a + (n + _)
        omega
theorem sum_getD (p : Nat) : ∀ l : List Field, (l.map fun x => (cheapestI x p).getD 0).sum = (((l.map fun x => ((cheapest x p).getD 0)).sum : Nat) : Int)
  | [] => rfl
  | x :: l => by
    rw [List.map_cons, List.map_cons, List.sum_cons, List.sum_cons, sum_getD p l, cheapest_I]
    cases cheapest x p with
    | none =>
      show (0 : Int) + _ = ((0 + _ : Nat) : Int)
      omega
    | some n =>
      show (n : Int) + _ = ((n + _ : Nat) : Int)
      omega
theorem bound_eq (f : File) (p : Nat) : Vbenaj.bound f p = boundI f p := by
  unfold boundI
  show Option.map (fun n : Int => n - ((p * f.holes : Nat) : Int)) ((f.fields.foldl (stepB p) (some 0)).bind fun a => some (a : Int)) = _
  rw [bound_fold, sum_getD]
  by_cases q : none ∈ f.fields.map (fun x => cheapestI x p)
  · rw [if_pos q, if_pos q]; rfl
  · rw [if_neg q, if_neg q]
    show some ((((0 : Nat) + _ : Nat) : Int) - _) = _
    rw [Nat.zero_add]
/-! ### idle codes -/
theorem codeAt_of {x : Field} {c : Nat} (h : c < x.codes.length) : x.codes[c]? = some (codeAt x c) := codeAt_get h
theorem idle_eq (x : Field) : Vbenaj.idle x = idleI x := by
  unfold Vbenaj.idle idleI
  refine List.filter_congr fun c hc => ?_
  have hc := List.mem_range.mp hc
  have key : ∀ (l : List Nat) (p q : Nat → Bool), (∀ d ∈ l, p d = q d) → l.any p = l.any q := by
    intro l p q h
    induction l with
    | nil => rfl
    | cons a l ih => simp only [List.any_cons, h a List.mem_cons_self, ih fun d hd => h d (List.mem_cons_of_mem _ hd)]
  refine key _ _ _ fun d hd => ?_
  have hd := List.mem_range.mp hd
  unfold outdoesB
  rw [codeAt_of hd, codeAt_of hc]
  dsimp only
  by_cases h : (codeAt x c).holes < (codeAt x d).holes ∨ (codeAt x c).cost < (codeAt x d).cost
  · rw [if_pos h, decide_eq_false (by omega), Bool.false_and]
  · rw [if_neg h]
    by_cases e : d = c
    · subst e
      simp
    · rw [decide_eq_true (by omega), Bool.true_and]
      by_cases h1 : (codeAt x d).holes < (codeAt x c).holes <;> by_cases h2 : (codeAt x d).cost < (codeAt x c).cost <;> simp [h1, h2]
/-! ### the greatest divisor -/
theorem gcdP_eq : ∀ (n a b : Nat), b < n → gcdP n a b = Nat.gcd a b
  | 0, _, _, h => by omega
  | n + 1, a, b, h => by
    show (if 0 < b then gcdP n b (a % b) else a) = _
    by_cases q : 0 < b
    · rw [if_pos q, gcdP_eq n b (a % b) (by have := Nat.mod_lt a q; omega), Nat.gcd_comm a b, Nat.gcd_rec b a, Nat.gcd_comm]
    · rw [if_neg q]
      have : b = 0 := by omega
      rw [this, Nat.gcd_zero_right]
/-! ### askings -/
theorem row_indep (l : List Field) : ∀ (H H' h : Nat), h ≤ H → h ≤ H' → (rowI H l).getD h none = (rowI H' l).getD h none := by
  induction l with
  | nil =>
    intro H H' h h1 h2
    rw [rowI_nil, rowI_nil]
    unfold lastRow
    rw [List.getD_eq_getElem?_getD, List.getD_eq_getElem?_getD, List.getElem?_replicate, List.getElem?_replicate, if_pos (by omega), if_pos (by omega)]
  | cons x l ih =>
    intro H H' h h1 h2
    rw [rowI_cons_getD H x l h h1, rowI_cons_getD H' x l h h2]
    congr 1
    unfold costsWith
    refine List.map_congr_left fun c _ => ?_
    unfold costWith
    by_cases hc : c.holes ≤ h
    · rw [if_pos hc, if_pos hc, ih H H' (h - c.holes) (by omega) (by omega)]
    · rw [if_neg hc, if_neg hc]
theorem rest_eq {f : File} {i c : Nat} (hc : c < (fieldAt f i).codes.length) : (besideI f i (fieldAt f i)).getD c none = (rest f i c).map Int.ofNat := by
  unfold besideI rest
  rw [List.getD_eq_getElem?_getD]
  unfold costsWith
  rw [List.getElem?_map]
  show ((((fieldAt f i).codes[c]?).map _).getD none) = _
  rw [codeAt_of hc]
  show costWith { fieldAt f i with asked := 0 } (rowI f.holes (cutAt f.fields i)) f.holes (codeAt (fieldAt f i) c) = _
  unfold costWith
  by_cases h : (codeAt (fieldAt f i) c).holes ≤ f.holes
  · dsimp only
    rw [if_pos h, if_pos h, least_I, without_eq]
    show Option.map _ ((rowI f.holes (cutAt f.fields i)).getD (f.holes - (codeAt (fieldAt f i) c).holes) none) = (rowI (f.holes - (codeAt (fieldAt f i) c).holes) (cutAt f.fields i)).getD (f.holes - (codeAt (fieldAt f i) c).holes) none
    rw [row_indep _ f.holes (f.holes - (codeAt (fieldAt f i) c).holes) _ (by omega) (Nat.le_refl _)]
    cases (rowI (f.holes - (codeAt (fieldAt f i) c).holes) (cutAt f.fields i)).getD (f.holes - (codeAt (fieldAt f i) c).holes) none with
    | none => rfl
    | some n =>
      show some (((0 * _ : Nat) : Int) + n) = some n
      rw [Nat.zero_mul]
      simp
  · dsimp only
    rw [if_neg h, if_neg h]
    rfl
end Nt

set_option maxHeartbeats 4000000
namespace Nt
open Vbenaj
/-! ### from how often to how often a code stands -/
/-- the specification's step -/
def endStep (f : File) (i c r : Nat) (e : Int × Int) (d : Nat) : Int × Int := match rest f i d with
  | none => e
  | some s =>
    let a : Int := (codeAt (fieldAt f i) c).cost
    let b : Int := (codeAt (fieldAt f i) d).cost
    let k : Int := (s : Int) - (r : Int)
    if b < a then (e.1, min e.2 (Int.fdiv k (a - b))) else if a < b then (max e.1 (-(Int.fdiv k (b - a))), e.2) else if k < 0 then (1, 0) else e
theorem range_do (f : File) (i c : Nat) : range_ f i c = (match rest f i c with
    | none => none
    | some r => if ((List.range (fieldAt f i).codes.length).foldl (endStep f i c r) (0, 1000)).1 ≤ ((List.range (fieldAt f i).codes.length).foldl (endStep f i c r) (0, 1000)).2 then
        some (((List.range (fieldAt f i).codes.length).foldl (endStep f i c r) (0, 1000)).1.toNat, ((List.range (fieldAt f i).codes.length).foldl (endStep f i c r) (0, 1000)).2.toNat) else none) := rfl
def EndR (e e' : Int × Int) : Prop := (e = e' ∧ 0 ≤ e.1 ∧ e.2 ≤ 1000) ∨ (e.2 < e.1 ∧ e'.2 < e'.1)
theorem maxP_eq (i j : Int) : maxP i j = max i j := by unfold maxP; split <;> omega
theorem minP_eq (i j : Int) : minP i j = min i j := by unfold minP; split <;> omega
theorem end_step {f : File} {i c r d : Nat} {e e' : Int × Int} (hd : d < (fieldAt f i).codes.length) (h : EndR e e') :
    EndR (endStep f i c r e d) (askStep ((codeAt (fieldAt f i) c).cost : Int) (r : Int) e' (codeAt (fieldAt f i) d, (rest f i d).map Int.ofNat)) := by
  unfold endStep askStep
  cases rest f i d with
  | none => exact h
  | some s =>
    dsimp only [Option.map]
    generalize ((codeAt (fieldAt f i) c).cost : Int) = a
    generalize ((codeAt (fieldAt f i) d).cost : Int) = b
    show EndR _ (maxP e'.1 (leastAsked (a - b) ((s : Int) - r)), minP e'.2 (greatestAsked (a - b) ((s : Int) - r)))
    generalize (s : Int) - (r : Int) = k
    rw [maxP_eq, minP_eq]
    unfold leastAsked greatestAsked
    by_cases h1 : b < a
    · rw [if_pos h1, if_neg (show ¬ a - b < 0 by omega), if_pos (show 0 < a - b by omega), Int.fdiv_eq_ediv_of_nonneg _ (by omega)]
      by_cases hk : 0 ≤ k
      · rw [if_pos hk]
        have hq : 0 ≤ k / (a - b) := Int.ediv_nonneg hk (by omega)
        rcases h with ⟨rfl, h2, h3⟩ | ⟨h2, h3⟩
        · refine .inl ⟨?_, h2, by show min _ _ ≤ _; omega⟩
          rw [Int.max_eq_left h2]
        · exact .inr ⟨by show min _ _ < _; omega, by show min _ _ < max _ _; omega⟩
      · rw [if_neg hk]
        have hq : k / (a - b) < 0 := Int.ediv_neg_of_neg_of_pos (by omega) (by omega)
        rcases h with ⟨rfl, h2, h3⟩ | ⟨h2, h3⟩
        · exact .inr ⟨by show min _ _ < _; omega, by show min _ _ < max _ _; omega⟩
        · exact .inr ⟨by show min _ _ < _; omega, by show min _ _ < max _ _; omega⟩
    · rw [if_neg h1]
      by_cases h4 : a < b
      · rw [if_pos h4, if_pos (show a - b < 0 by omega), if_neg (show ¬ 0 < a - b by omega), Int.fdiv_eq_ediv_of_nonneg _ (by omega), show -(a - b) = b - a by omega]
        rcases h with ⟨rfl, h2, h3⟩ | ⟨h2, h3⟩
        · refine .inl ⟨?_, by show 0 ≤ max _ _; omega, h3⟩
          rw [Int.min_eq_left h3]
        · exact .inr ⟨by show _ < max _ _; omega, by show min _ _ < max _ _; omega⟩
      · rw [if_neg h4, if_neg (show ¬ a - b < 0 by omega), if_neg (show ¬ 0 < a - b by omega)]
        by_cases hk : k < 0
        · rw [if_pos hk, if_neg (show ¬ 0 ≤ k by omega)]
          refine .inr ⟨by decide, ?_⟩
          show min _ _ < max _ _
          omega
        · rw [if_neg hk, if_pos (show 0 ≤ k by omega)]
          rcases h with ⟨rfl, h2, h3⟩ | ⟨h2, h3⟩
          · refine .inl ⟨?_, h2, h3⟩
            rw [Int.max_eq_left h2, Int.min_eq_left h3]
          · exact .inr ⟨h2, by show min _ _ < max _ _; omega⟩
theorem zip_range {f : File} {i : Nat} : (fieldAt f i).codes.zip (besideI f i (fieldAt f i)) = (List.range (fieldAt f i).codes.length).map fun d => (codeAt (fieldAt f i) d, (rest f i d).map Int.ofNat) := by
  have bl : (besideI f i (fieldAt f i)).length = (fieldAt f i).codes.length := costsWith_length _ _ _
  refine List.ext_getElem? fun j => ?_
  rw [List.getElem?_map]
  by_cases hj : j < (fieldAt f i).codes.length
  · rw [List.getElem?_range hj]
    show _ = some _
    refine List.getElem?_zip_eq_some.mpr ⟨codeAt_of hj, ?_⟩
    show (besideI f i (fieldAt f i))[j]? = some ((rest f i j).map Int.ofNat)
    rw [← rest_eq hj]
    exact getD_some (by omega)
  · rw [List.getElem?_eq_none (by rw [List.length_zip]; omega), List.getElem?_eq_none (by rw [List.length_range]; omega)]
    rfl
theorem askI_of {x : Field} {c : Nat} {bs : Row} {b : Int} (h : bs.getD c none = some b) : askI x c bs = if ((x.codes.zip bs).foldl (askStep ((codeAt x c).cost : Int) b) (0, 1000)).1 ≤ ((x.codes.zip bs).foldl (askStep ((codeAt x c).cost : Int) b) (0, 1000)).2 then some ((x.codes.zip bs).foldl (askStep ((codeAt x c).cost : Int) b) (0, 1000)) else none := by
  unfold askI
  rw [h]
theorem askI_non {x : Field} {c : Nat} {bs : Row} (h : bs.getD c none = none) : askI x c bs = none := by
  unfold askI
  rw [h]
theorem ends_R (f : File) (i c r : Nat) : ∀ (l : List Nat) (e e' : Int × Int), (∀ d ∈ l, d < (fieldAt f i).codes.length) → EndR e e' → EndR (l.foldl (endStep f i c r) e) ((l.map fun d => (codeAt (fieldAt f i) d, (rest f i d).map Int.ofNat)).foldl (askStep ((codeAt (fieldAt f i) c).cost : Int) (r : Int)) e') := by
  intro l
  induction l with
  | nil => intro e e' _ h; exact h
  | cons d l ih =>
    intro e e' hl h
    exact ih _ _ (fun z hz => hl z (List.mem_cons_of_mem _ hz)) (end_step (hl d List.mem_cons_self) h)
theorem range_eq {f : File} {i c : Nat} (hc : c < (fieldAt f i).codes.length) : (range_ f i c).map (fun z => ((z.1 : Int), (z.2 : Int))) = askI (fieldAt f i) c (besideI f i (fieldAt f i)) := by
  rw [range_do]
  cases q0 : rest f i c with
  | none =>
    rw [askI_non (by rw [rest_eq hc, q0]; rfl)]
    rfl
  | some r =>
    rw [askI_of (b := (r : Int)) (by rw [rest_eq hc, q0]; rfl), zip_range]
    have := ends_R f i c r (List.range (fieldAt f i).codes.length) (0, 1000) (0, 1000) (fun d hd => List.mem_range.mp hd) (.inl ⟨rfl, by decide, by decide⟩)
    dsimp only
    generalize (List.range (fieldAt f i).codes.length).foldl (endStep f i c r) (0, 1000) = e at this ⊢
    generalize ((List.range (fieldAt f i).codes.length).map fun d => (codeAt (fieldAt f i) d, (rest f i d).map Int.ofNat)).foldl (askStep ((codeAt (fieldAt f i) c).cost : Int) (r : Int)) (0, 1000) = e' at this ⊢
    rcases this with ⟨rfl, h2, h3⟩ | ⟨h2, h3⟩
    · by_cases q : e.1 ≤ e.2
      · rw [if_pos q, if_pos q]
        show some (((e.1.toNat : Nat) : Int), ((e.2.toNat : Nat) : Int)) = _
        rw [Int.toNat_of_nonneg h2, Int.toNat_of_nonneg (by omega)]
      · rw [if_neg q, if_neg q]
        rfl
    · rw [if_neg (by omega), if_neg (by omega)]
      rfl
/-! ### labels -/
theorem labelRow_getD {f : File} {d : List Int} {i h : Nat} (hd : d.length = (f.fields.length + 1) * (f.holes + 1)) (hi : i ≤ f.fields.length) (hh : h ≤ f.holes) : (labelRow f d i)[h]? = some (d.getD (i * (f.holes + 1) + h) 0) := by
  unfold labelRow
  have : (i + 1) * (f.holes + 1) ≤ (f.fields.length + 1) * (f.holes + 1) := Nat.mul_le_mul_right _ (by omega)
  rw [Nat.succ_mul] at this
  rw [List.getElem?_take_of_lt (by omega), List.getElem?_drop]
  exact getD_some (by omega)
theorem row_any (x : Field) (r : Row) (h : Nat) (n : Int) : (match leastOf (costsWith x r h) with
    | some m => decide (m < n)
    | none => false) = x.codes.any fun c => match costWith x r h c with
      | some m => decide (m < n)
      | none => false := by
  rcases leastOf_spec (costsWith x r h) with ⟨e, hn⟩ | ⟨m, e, hm, hl⟩
  · rw [e]
    symm
    refine List.any_eq_false.mpr fun c hc => ?_
    cases q : costWith x r h c with
    | none => simp
    | some k => exact absurd (List.mem_map.mpr ⟨c, hc, q⟩) (hn k)
  · rw [e]
    dsimp only
    by_cases k : m < n
    · rw [decide_eq_true k]
      symm
      obtain ⟨c, hc, q⟩ := List.mem_map.mp hm
      refine List.any_eq_true.mpr ⟨c, hc, ?_⟩
      rw [q]
      exact decide_eq_true k
    · rw [decide_eq_false k]
      symm
      refine List.any_eq_false.mpr fun c hc => ?_
      cases q : costWith x r h c with
      | none => simp
      | some z =>
        have := hl z (List.mem_map.mpr ⟨c, hc, q⟩)
        simp
        omega
theorem any_congr' {α : Type} {l : List α} {p q : α → Bool} (h : ∀ a ∈ l, p a = q a) : l.any p = l.any q := by
  induction l with
  | nil => rfl
  | cons a l ih => simp only [List.any_cons, h a List.mem_cons_self, ih fun d hd => h d (List.mem_cons_of_mem _ hd)]
def badAt (f : File) (d : List Int) (z : Nat × Nat) : Bool :=
  let x := d.getD (z.1 * (f.holes + 1) + z.2) 0
  if z.1 = f.fields.length then decide (0 < x) else (fieldAt f z.1).codes.any fun c => decide (c.holes ≤ z.2) && decide ((paid (fieldAt f z.1) c : Int) + d.getD ((z.1 + 1) * (f.holes + 1) + (z.2 - c.holes)) 0 < x)
theorem badLabel_do (f : File) (d : List Int) : badLabel f d = ((List.range (f.fields.length + 1)).flatMap fun i => (List.range (f.holes + 1)).map fun h => (i, h)).find? (badAt f d) := rfl
theorem bad_wrong {f : File} {d : List Int} {i h : Nat} (hd : d.length = (f.fields.length + 1) * (f.holes + 1)) (hi : i ≤ f.fields.length) (hh : h ≤ f.holes) : badAt f d (i, h) = wrongAt f d i h := by
  unfold badAt wrongAt greatRow
  have hl := labelRow_getD hd hi hh
  have hl2 : (labelRow f d i).getD h 0 = d.getD (i * (f.holes + 1) + h) 0 := by rw [List.getD_eq_getElem?_getD, hl]; rfl
  dsimp only
  rw [hl2]
  by_cases q : i = f.fields.length
  · rw [if_pos q, List.getElem?_eq_none (by omega)]
    have e : (lastRow f.holes 0).getD h none = some 0 := by
      unfold lastRow
      rw [List.getD_eq_getElem?_getD, List.getElem?_replicate, if_pos (by omega)]
      rfl
    dsimp only
    rw [e]
  · have hlt : i < f.fields.length := by omega
    rw [if_neg q, fieldAt_some hlt]
    dsimp only
    have rl : (intRow (labelRow f d (i + 1))).length = f.holes + 1 := by
      unfold intRow
      rw [List.length_map, labelRow_length hd (by omega)]
    rw [rowAhead_getD _ _ _ (by rw [rl]; omega)]
    refine Eq.trans ?_ (row_any _ _ _ _).symm
    refine any_congr' fun c _ => ?_
    unfold costWith
    by_cases hc : c.holes ≤ h
    · rw [if_pos hc, decide_eq_true hc, Bool.true_and]
      have e : (intRow (labelRow f d (i + 1))).getD (h - c.holes) none = some (d.getD ((i + 1) * (f.holes + 1) + (h - c.holes)) 0) := by
        unfold intRow
        rw [List.getD_eq_getElem?_getD, List.getElem?_map, labelRow_getD hd (by omega) (by omega)]
        rfl
      rw [e]
      rfl
    · rw [if_neg hc, decide_eq_false hc, Bool.false_and]
theorem badLabel_eq {f : File} {d : List Int} (hd : d.length = (f.fields.length + 1) * (f.holes + 1)) : badLabel f d = firstWrong f d := by
  rw [badLabel_do, List.find?_flatMap]
  unfold firstWrong
  have key : ∀ (l : List Nat), (∀ i ∈ l, i ≤ f.fields.length) → (l.findSome? fun i => ((List.range (f.holes + 1)).map fun h => (i, h)).find? (badAt f d)) = l.findSome? (wrongIn f d) := by
    intro l
    induction l with
    | nil => intro _; rfl
    | cons i l ih =>
      intro hl
      have e : ((List.range (f.holes + 1)).map fun h => (i, h)).find? (badAt f d) = wrongIn f d i := by
        unfold wrongIn
        rw [List.find?_map]
        congr 1
        have k2 : ∀ (m : List Nat), (∀ h ∈ m, h ≤ f.holes) → m.find? (badAt f d ∘ fun h => (i, h)) = m.find? fun h => wrongAt f d i h := by
          intro m
          induction m with
          | nil => intro _; rfl
          | cons h m ih =>
            intro hm
            rw [List.find?_cons, List.find?_cons, ih fun z hz => hm z (List.mem_cons_of_mem _ hz)]
            show (match badAt f d (i, h) with | true => _ | false => _) = _
            rw [bad_wrong hd (hl i List.mem_cons_self) (hm h List.mem_cons_self)]
            rfl
        exact k2 _ fun h hh => by have := List.mem_range.mp hh; omega
      rw [List.findSome?_cons, List.findSome?_cons, e, ih fun z hz => hl z (List.mem_cons_of_mem _ hz)]
  exact key _ fun i hi => by have := List.mem_range.mp hi; omega
theorem isLabels_eq (f : File) (d : List Int) : (d.length ≠ (f.fields.length + 1) * (f.holes + 1) ∨ (d.all fun z => VbenCore.isBetween z (-BIG) BIG) = false) ↔ isLabelsB f d = false := by
  unfold isLabelsB
  by_cases h : d.length = (f.fields.length + 1) * (f.holes + 1)
  · rw [if_neg (fun z => z h)]
    have e : (d.all fun z => VbenCore.isBetween z (-BIG) BIG) = d.all fun z => decide ((if z < 0 then -z else z) ≤ 1000000000000) := by
      induction d with
      | nil => rfl
      | cons a d ih => 
        clear h
        rw [List.all_cons, List.all_cons]
        congr 1
        · unfold VbenCore.isBetween BIG
          by_cases q : a < 0
          · rw [if_pos q]
            by_cases k : -a ≤ 1000000000000
            · rw [decide_eq_true (p := -a ≤ _) k, decide_eq_true (by omega), decide_eq_true (by omega)]; rfl
            · rw [decide_eq_false (p := -a ≤ _) k, decide_eq_false (p := -1000000000000 ≤ a) (by omega)]; rfl
          · rw [if_neg q]
            rw [decide_eq_true (p := -1000000000000 ≤ a) (by omega), Bool.true_and]
        · have k2 : ∀ (d : List Int), (d.all fun z => VbenCore.isBetween z (-BIG) BIG) = d.all fun z => decide ((if z < 0 then -z else z) ≤ 1000000000000) := by
            intro d
            induction d with
            | nil => rfl
            | cons a d ih =>
              rw [List.all_cons, List.all_cons, ih]
              congr 1
              unfold VbenCore.isBetween BIG
              by_cases q : a < 0
              · rw [if_pos q]
                by_cases k : -a ≤ 1000000000000
                · rw [decide_eq_true (p := -a ≤ _) k, decide_eq_true (by omega), decide_eq_true (by omega)]; rfl
                · rw [decide_eq_false (p := -a ≤ _) k, decide_eq_false (p := -1000000000000 ≤ a) (by omega)]; rfl
              · rw [if_neg q]
                rw [decide_eq_true (p := -1000000000000 ≤ a) (by omega), Bool.true_and]
          exact k2 d
    rw [e]
    simp [h]
  · rw [if_pos h]
    simp [h]
end Nt

set_option maxHeartbeats 4000000
namespace Nt
open Vbenaj
/-! ### the best price -/
def cst (x : Field) (p : Nat) (c : Code) : Nat := x.asked * c.cost + p * c.holes
theorem cst_succ (x : Field) (p : Nat) (c : Code) : cst x (p + 1) c = cst x p c + c.holes := by
  unfold cst
  rw [Nat.succ_mul]
  omega
def mI (x : Field) (p : Nat) : Int := (cheapestI x p).getD 0
def Dx (x : Field) (p : Nat) : Int := mI x (p + 1) - mI x p
theorem cheap_spec {x : Field} (h : x.codes ≠ []) (p : Nat) : cheapestI x p = some (mI x p) ∧ (∃ c ∈ x.codes, mI x p = (cst x p c : Nat)) ∧ ∀ d ∈ x.codes, mI x p ≤ (cst x p d : Nat) := by
  unfold mI cheapestI
  rcases leastOf_spec (x.codes.map fun c => some ((x.asked * c.cost + p * c.holes : Nat) : Int)) with ⟨_, hn⟩ | ⟨m, e, hm, hl⟩
  · cases hx : x.codes with
    | nil => exact absurd hx h
    | cons c l =>
      rw [hx] at hn
      exact absurd List.mem_cons_self (hn _)
  · rw [e]
    refine ⟨rfl, ?_, fun d hd => ?_⟩
    · obtain ⟨c, hc, q⟩ := List.mem_map.mp hm
      injection q with q
      exact ⟨c, hc, q.symm⟩
    · exact hl _ (List.mem_map.mpr ⟨d, hd, rfl⟩)
theorem Dx_mono {x : Field} (h : x.codes ≠ []) (p : Nat) : Dx x (p + 1) ≤ Dx x p := by
  obtain ⟨_, ⟨c, hc, e⟩, _⟩ := cheap_spec h (p + 1)
  have h1 := (cheap_spec h p).2.2 c hc
  have h2 := (cheap_spec h (p + 2)).2.2 c hc
  have s1 := cst_succ x p c
  have s2 := cst_succ x (p + 1) c
  unfold Dx
  show mI x (p + 2) - mI x (p + 1) ≤ _
  have s3 : cst x (p + 2) c = cst x (p + 1) c + c.holes := s2
  omega
/-- where the rise of a field changes, a price of two of its codes is near -/
theorem Dx_break {x : Field} (h : x.codes ≠ []) {p : Nat} (q : Dx x (p + 1) < Dx x p) : ∃ a ∈ x.codes, ∃ b ∈ x.codes, (a.holes < b.holes ∧ paid x b < paid x a) ∧ (p + 1 = (paid x a - paid x b) / (b.holes - a.holes) ∨ p + 1 = (paid x a - paid x b) / (b.holes - a.holes) + 1) := by
  obtain ⟨_, ⟨c, hc, e1⟩, m1⟩ := cheap_spec h (p + 1)
  obtain ⟨_, ⟨b, hb, e0⟩, m0⟩ := cheap_spec h p
  obtain ⟨_, ⟨a, ha, e2⟩, m2⟩ := cheap_spec h (p + 2)
  have s1 := cst_succ x p c
  have s2 : cst x (p + 2) c = cst x (p + 1) c + c.holes := cst_succ x (p + 1) c
  have q2 : mI x (p + 2) - mI x (p + 1) < mI x (p + 1) - mI x p := q
  have tri : (c.holes : Int) < mI x (p + 1) - mI x p ∨ mI x (p + 2) - mI x (p + 1) < (c.holes : Int) := by omega
  rcases tri with t | t
  · -- b is better at p
    have k1 : cst x p b < cst x p c := by omega
    have k2 : cst x (p + 1) c ≤ cst x (p + 1) b := by have := m1 b hb; omega
    have sb := cst_succ x p b
    have hh : c.holes < b.holes := by omega
    obtain ⟨k, hk⟩ : ∃ k, b.holes = c.holes + k := ⟨b.holes - c.holes, by omega⟩
    unfold cst at k1 k2
    rw [hk, Nat.mul_add] at k1 k2
    have hk0 : 0 < k := by omega
    have j1 : (p + 1) * k = p * k + k := Nat.succ_mul p k
    refine ⟨c, hc, b, hb, ⟨hh, ?_⟩, ?_⟩
    · show x.asked * b.cost < x.asked * c.cost
      omega
    · have hd : b.holes - c.holes = k := by omega
      rw [hd]
      show p + 1 = (x.asked * c.cost - x.asked * b.cost) / k ∨ p + 1 = (x.asked * c.cost - x.asked * b.cost) / k + 1
      generalize ht : x.asked * c.cost - x.asked * b.cost = t2
      have l1 : p * k < t2 := by omega
      have l2 : t2 ≤ (p + 1) * k := by omega
      by_cases hq : t2 = (p + 1) * k
      · left
        rw [hq, Nat.mul_div_cancel _ hk0]
      · right
        rw [Nat.div_eq_of_lt_le (k := p) (by omega) (by omega)]
  · have k1 : cst x (p + 2) a < cst x (p + 2) c := by omega
    have k2 : cst x (p + 1) c ≤ cst x (p + 1) a := by have := m1 a ha; omega
    have sa : cst x (p + 2) a = cst x (p + 1) a + a.holes := cst_succ x (p + 1) a
    have hh : a.holes < c.holes := by omega
    obtain ⟨k, hk⟩ : ∃ k, c.holes = a.holes + k := ⟨c.holes - a.holes, by omega⟩
    unfold cst at k1 k2
    rw [hk, Nat.mul_add] at k1 k2
    have hk0 : 0 < k := by omega
    have j1 : (p + 1) * k = p * k + k := Nat.succ_mul p k
    have j2 : (p + 2) * k = (p + 1) * k + k := Nat.succ_mul (p + 1) k
    refine ⟨a, ha, c, hc, ⟨hh, ?_⟩, ?_⟩
    · show x.asked * c.cost < x.asked * a.cost
      omega
    · have hd : c.holes - a.holes = k := by omega
      rw [hd]
      left
      show p + 1 = (x.asked * a.cost - x.asked * c.cost) / k
      generalize ht : x.asked * a.cost - x.asked * c.cost = t2
      have j3 : (p + 1 + 1) * k = (p + 1) * k + k := Nat.succ_mul (p + 1) k
      rw [Nat.div_eq_of_lt_le (k := p + 1) (by omega) (by omega)]
/-- beyond the greatest price a field's rise is no more than any code's holes -/
theorem Dx_far {x : Field} (ha : x.asked ≤ 1000) (hc : ∀ c ∈ x.codes, c.cost ≤ 1000000) {k : Code} (hk : k ∈ x.codes) : Dx x 1000000000 ≤ k.holes := by
  have h : x.codes ≠ [] := fun z => by rw [z] at hk; cases hk
  obtain ⟨_, ⟨b, hb, e0⟩, m0⟩ := cheap_spec h 1000000000
  obtain ⟨_, _, m1⟩ := cheap_spec h (1000000000 + 1)
  have h1 := m1 b hb
  have h2 := m1 k hk
  have h3 := m0 k hk
  rw [cst_succ] at h1 h2
  unfold Dx
  by_cases q : b.holes ≤ k.holes
  · omega
  · have pk : x.asked * k.cost ≤ 1000 * 1000000 := Nat.mul_le_mul ha (hc k hk)
    have e : cst x 1000000000 k = x.asked * k.cost + 1000000000 * k.holes := rfl
    have e' : cst x 1000000000 b = x.asked * b.cost + 1000000000 * b.holes := rfl
    omega
theorem sum_mono {l : List Field} {g h : Field → Int} (k : ∀ x ∈ l, g x ≤ h x) : (l.map g).sum ≤ (l.map h).sum := by
  induction l with
  | nil => exact Int.le_refl _
  | cons a l ih =>
    rw [List.map_cons, List.map_cons, List.sum_cons, List.sum_cons]
    have := ih fun x hx => k x (List.mem_cons_of_mem _ hx)
    have := k a List.mem_cons_self
    omega
theorem sum_sub (l : List Field) (g h : Field → Int) : (l.map fun x => g x - h x).sum = (l.map g).sum - (l.map h).sum := by
  induction l with
  | nil => rfl
  | cons a l ih =>
    rw [List.map_cons, List.map_cons, List.map_cons, List.sum_cons, List.sum_cons, List.sum_cons, ih]
    omega
theorem sum_strict {l : List Field} {g h : Field → Int} (k : (l.map g).sum < (l.map h).sum) : ∃ x ∈ l, g x < h x := by
  induction l with
  | nil => exact absurd k (Int.lt_irrefl 0)
  | cons a l ih =>
    rw [List.map_cons, List.map_cons, List.sum_cons, List.sum_cons] at k
    by_cases q : g a < h a
    · exact ⟨a, List.mem_cons_self, q⟩
    · obtain ⟨x, hx, hq⟩ := ih (by omega)
      exact ⟨x, List.mem_cons_of_mem _ hx, hq⟩
section
variable {f : File}
/-- each field has a code -/
def Full (f : File) : Prop := ∀ x ∈ f.fields, x.codes ≠ []
theorem bound_full (h : Full f) (p : Nat) : boundI f p = some ((f.fields.map fun x => mI x p).sum - (p * f.holes : Nat)) := by
  unfold boundI
  rw [if_neg]
  · rfl
  · intro z
    obtain ⟨x, hx, e⟩ := List.mem_map.mp z
    rw [(cheap_spec (h x hx) p).1] at e
    cases e
theorem boundV_full (h : Full f) (p : Nat) : boundV f p = (f.fields.map fun x => mI x p).sum - (p * f.holes : Nat) := by
  unfold boundV
  rw [bound_full h]
  rfl
def DD (f : File) (p : Nat) : Int := boundV f (p + 1) - boundV f p
theorem DD_full (h : Full f) (p : Nat) : DD f p = (f.fields.map fun x => Dx x p).sum - f.holes := by
  unfold DD
  rw [boundV_full h, boundV_full h]
  have := sum_sub f.fields (fun x => mI x (p + 1)) (fun x => mI x p)
  have e : (f.fields.map fun x => Dx x p) = f.fields.map fun x => mI x (p + 1) - mI x p := rfl
  rw [e, this, Nat.succ_mul]
  omega
theorem DD_mono (h : Full f) (p : Nat) : DD f (p + 1) ≤ DD f p := by
  rw [DD_full h, DD_full h]
  have := sum_mono (l := f.fields) (g := fun x => Dx x (p + 1)) (h := fun x => Dx x p) fun x hx => Dx_mono (h x hx) p
  omega
theorem DD_le (h : Full f) {q r : Nat} (hq : q ≤ r) : DD f r ≤ DD f q := by
  induction r with
  | zero =>
    have : q = 0 := by omega
    subst this
    exact Int.le_refl _
  | succ r ih =>
    by_cases z : q = r + 1
    · subst z; exact Int.le_refl _
    · exact Int.le_trans (DD_mono h r) (ih (by omega))
theorem rises_DD (p : Nat) : rises f p = decide (0 < DD f p) := by
  unfold rises DD
  by_cases h : boundV f p < boundV f (p + 1)
  · rw [decide_eq_true h, decide_eq_true (by omega)]
  · rw [decide_eq_false h, decide_eq_false (by omega)]
theorem rises_mono (h : Full f) : ∀ q r, q ≤ r → rises f r = true → rises f q = true := fun q r hq hr => by
  rw [rises_DD] at hr ⊢
  have := DD_le h hq
  have := of_decide_eq_true hr
  exact decide_eq_true (by omega)
theorem firstF_spec (g : Nat → Bool) : ∀ (n p : Nat), p ≤ firstF g n p ∧ firstF g n p ≤ p + n ∧ (∀ r, p ≤ r → r < firstF g n p → g r = true) ∧ (firstF g n p < p + n → g (firstF g n p) = false)
  | 0, p => ⟨Nat.le_refl _, Nat.le_refl _, fun r h1 h2 => by have : r < p := h2; omega, fun h => by have : p < p + 0 := h; omega⟩
  | n + 1, p => by
    have e : firstF g (n + 1) p = if g p then firstF g n (p + 1) else p := rfl
    rw [e]
    by_cases h : g p = true
    · rw [if_pos h]
      obtain ⟨a, b, c, d⟩ := firstF_spec g n (p + 1)
      refine ⟨by omega, by omega, fun r h1 h2 => ?_, fun z => d (by omega)⟩
      by_cases q : r = p
      · rw [q]; exact h
      · exact c r (by omega) h2
    · rw [if_neg h]
      refine ⟨Nat.le_refl _, by omega, fun r h1 h2 => by omega, fun _ => ?_⟩
      cases k : g p with
      | true => exact absurd k h
      | false => rfl
/-- the least of the prices of greatest bound -/
theorem best_spec (h : Full f) (hz : DD f 1000000000 ≤ 0) : (∀ q, q < bestI f → 0 < DD f q) ∧ DD f (bestI f) ≤ 0 := by
  obtain ⟨_, b, c, d⟩ := firstF_spec (rises f) 1000000000 0
  have e : firstF (rises f) 1000000000 0 = bestI f := rfl
  rw [e] at b c d
  refine ⟨fun q hq => ?_, ?_⟩
  · have := c q (Nat.zero_le _) hq
    rw [rises_DD] at this
    exact of_decide_eq_true this
  · by_cases q : bestI f < 1000000000
    · have := d (by omega)
      rw [rises_DD] at this
      have := of_decide_eq_false this
      omega
    · have : bestI f = 1000000000 := by omega
      rw [this]
      exact hz
theorem bound_up (h : ∀ q, q < bestI f → 0 < DD f q) : ∀ n q, q + n = bestI f → 0 < n → boundV f q < boundV f (bestI f)
  | 0, q, _, hn => by omega
  | n + 1, q, e, _ => by
    have h1 := h q (by omega)
    unfold DD at h1
    by_cases z : n = 0
    · have : q + 1 = bestI f := by omega
      rw [← this]
      omega
    · have := bound_up h n (q + 1) (by omega) (by omega)
      omega
theorem bound_down (hf : Full f) (h : DD f (bestI f) ≤ 0) : ∀ n, boundV f (bestI f + n) ≤ boundV f (bestI f)
  | 0 => Int.le_refl _
  | n + 1 => by
    have ih := bound_down hf h n
    have := DD_le hf (show bestI f ≤ bestI f + n by omega)
    have e : DD f (bestI f + n) = boundV f (bestI f + (n + 1)) - boundV f (bestI f + n) := rfl
    omega
theorem best_in (hf : Full f) (h1 : ∀ q, q < bestI f → 0 < DD f q) (h2 : DD f (bestI f) ≤ 0) : bestI f ∈ prices f := by
  unfold prices
  by_cases z : bestI f = 0
  · rw [z]; exact List.mem_cons_self
  · refine List.mem_cons_of_mem _ ?_
    obtain ⟨p, hp⟩ : ∃ p, bestI f = p + 1 := ⟨bestI f - 1, by omega⟩
    have a1 := h1 p (by omega)
    rw [hp] at h2
    rw [DD_full hf] at a1 h2
    obtain ⟨x, hx, q⟩ := sum_strict (l := f.fields) (g := fun x => Dx x (p + 1)) (h := fun x => Dx x p) (by omega)
    obtain ⟨a, ha, b, hb, hab, e⟩ := Dx_break (hf x hx) q
    refine List.mem_flatMap.mpr ⟨x, hx, List.mem_flatMap.mpr ⟨a, ha, List.mem_flatMap.mpr ⟨b, hb, ?_⟩⟩⟩
    rw [if_pos hab, hp]
    rcases e with e | e
    · rw [e]; exact List.mem_cons_self
    · rw [e]; exact List.mem_cons_of_mem _ List.mem_cons_self
end
/-! sorted -/
abbrev ltB : Nat → Nat → Bool := fun a b => decide (a < b)
theorem ins_mem (x : Nat) : ∀ (l : List Nat) (y : Nat), y ∈ VbenCore.insertBy ltB x l ↔ y = x ∨ y ∈ l
  | [], y => by simp [VbenCore.insertBy]
  | z :: l, y => by
    show y ∈ (if ltB x z = true then x :: z :: l else z :: VbenCore.insertBy ltB x l) ↔ _
    by_cases h : ltB x z = true
    · rw [if_pos h]; simp
    · rw [if_neg h, List.mem_cons, ins_mem x l y, List.mem_cons]
      constructor
      · rintro (h | h | h)
        · exact .inr (.inl h)
        · exact .inl h
        · exact .inr (.inr h)
      · rintro (h | h | h)
        · exact .inr (.inl h)
        · exact .inl h
        · exact .inr (.inr h)
theorem ins_sorted (x : Nat) : ∀ (l : List Nat), l.Pairwise (· ≤ ·) → (VbenCore.insertBy ltB x l).Pairwise (· ≤ ·)
  | [], _ => by simp [VbenCore.insertBy]
  | z :: l, h => by
    obtain ⟨h1, h2⟩ := List.pairwise_cons.mp h
    show (if ltB x z = true then x :: z :: l else z :: VbenCore.insertBy ltB x l).Pairwise (· ≤ ·)
    by_cases q : ltB x z = true
    · rw [if_pos q]
      have q := of_decide_eq_true q
      refine List.pairwise_cons.mpr ⟨fun y hy => ?_, h⟩
      rcases List.mem_cons.mp hy with e | e
      · omega
      · have := h1 y e
        omega
    · rw [if_neg q]
      have q : ¬ x < z := fun k => q (decide_eq_true k)
      refine List.pairwise_cons.mpr ⟨fun y hy => ?_, ins_sorted x l h2⟩
      rcases (ins_mem x l y).mp hy with e | e
      · omega
      · exact h1 y e
theorem sort_fold : ∀ (l acc : List Nat), acc.Pairwise (· ≤ ·) → (l.foldl (fun a x => VbenCore.insertBy ltB x a) acc).Pairwise (· ≤ ·) ∧ ∀ y, y ∈ l.foldl (fun a x => VbenCore.insertBy ltB x a) acc ↔ y ∈ l ∨ y ∈ acc
  | [], acc, h => ⟨h, fun y => by simp⟩
  | x :: l, acc, h => by
    obtain ⟨h1, h2⟩ := sort_fold l (VbenCore.insertBy ltB x acc) (ins_sorted x acc h)
    refine ⟨h1, fun y => ?_⟩
    rw [List.foldl_cons, h2 y, ins_mem, List.mem_cons]
    constructor
    · rintro (h | h | h)
      · exact .inl (.inr h)
      · exact .inl (.inl h)
      · exact .inr h
    · rintro ((h | h) | h)
      · exact .inr (.inl h)
      · exact .inl h
      · exact .inr (.inr h)
def pickB (f : File) (m : Option (Nat × Int)) (p : Nat) : Option (Nat × Int) := match bound f p with
  | none => m
  | some b => match m with
    | none => some (p, b)
    | some y => if y.2 < b then some (p, b) else some y
theorem best_do (f : File) : bestPrice f = (VbenCore.sortBy ltB (prices f)).foldl (pickB f) none := rfl
theorem pick_some {f : File} (h : Full f) (y : Nat × Int) (p : Nat) : pickB f (some y) p = if y.2 < boundV f p then some (p, boundV f p) else some y := by
  unfold pickB
  rw [bound_eq, bound_full h, ← boundV_full h]
theorem pick_none {f : File} (h : Full f) (p : Nat) : pickB f none p = some (p, boundV f p) := by
  unfold pickB
  rw [bound_eq, bound_full h, ← boundV_full h]
theorem pick_fold {f : File} (h : Full f) : ∀ (l : List Nat) (p0 : Nat), (p0 :: l).Pairwise (· ≤ ·) → ∃ p1, l.foldl (pickB f) (some (p0, boundV f p0)) = some (p1, boundV f p1) ∧ p1 ∈ p0 :: l ∧ (∀ q ∈ p0 :: l, boundV f q ≤ boundV f p1) ∧ ∀ q ∈ p0 :: l, boundV f q = boundV f p1 → p1 ≤ q
  | [], p0, _ => ⟨p0, rfl, List.mem_cons_self, fun q hq => by rw [List.mem_singleton.mp hq]; exact Int.le_refl _, fun q hq _ => by rw [List.mem_singleton.mp hq]; exact Nat.le_refl _⟩
  | a :: l, p0, hs => by
    obtain ⟨s1, s2⟩ := List.pairwise_cons.mp hs
    obtain ⟨s3, s4⟩ := List.pairwise_cons.mp s2
    have sa := s1 a List.mem_cons_self
    rw [List.foldl_cons, pick_some h]
    by_cases k : boundV f p0 < boundV f a
    · rw [if_pos (show (p0, boundV f p0).2 < _ from k)]
      obtain ⟨p1, e, m, g, m2⟩ := pick_fold h l a s2
      have ga := g a List.mem_cons_self
      refine ⟨p1, e, List.mem_cons_of_mem _ m, fun q hq => ?_, fun q hq e2 => ?_⟩
      · rcases List.mem_cons.mp hq with z | z
        · rw [z]; omega
        · exact g q z
      · rcases List.mem_cons.mp hq with z | z
        · rw [z] at e2; omega
        · exact m2 q z e2
    · rw [if_neg (show ¬ (p0, boundV f p0).2 < _ from k)]
      have s5 : (p0 :: l).Pairwise (· ≤ ·) := List.pairwise_cons.mpr ⟨fun y hy => s1 y (List.mem_cons_of_mem _ hy), s4⟩
      obtain ⟨p1, e, m, g, m2⟩ := pick_fold h l p0 s5
      have g0 := g p0 List.mem_cons_self
      refine ⟨p1, e, ?_, fun q hq => ?_, fun q hq e2 => ?_⟩
      · rcases List.mem_cons.mp m with z | z
        · rw [z]; exact List.mem_cons_self
        · exact List.mem_cons_of_mem _ (List.mem_cons_of_mem _ z)
      · rcases List.mem_cons.mp hq with z | z
        · rw [z]; exact g0
        · rcases List.mem_cons.mp z with z | z
          · rw [z]; omega
          · exact g q (List.mem_cons_of_mem _ z)
      · rcases List.mem_cons.mp hq with z | z
        · exact m2 q (by rw [z]; exact List.mem_cons_self) e2
        · rcases List.mem_cons.mp z with z | z
          · subst z
            have : p1 ≤ p0 := m2 p0 List.mem_cons_self (by omega)
            omega
          · exact m2 q (List.mem_cons_of_mem _ z) e2
theorem price_full {f : File} (hf : OkF f) {v : Nat} (e : least f = some v) : Full f ∧ DD f 1000000000 ≤ 0 := by
  obtain ⟨_, e2, _⟩ := leastPlan_some e
  have hv := least_I f
  rw [e] at hv
  obtain ⟨c1, c2, c3⟩ := planI_cost _ _ _ _ (Nat.le_refl _) hv.symm
  have pl := planI_length f.holes f.fields f.holes
  generalize planI f.holes f.fields f.holes = r at c1 c2 c3 pl
  have full : Full f := fun x hx z => by
    obtain ⟨i, hi, rfl⟩ := List.mem_iff_getElem.mp hx
    have := c3 (f.fields[i], r[i]'(by omega)) (List.mem_of_getElem? (i := i) (List.getElem?_zip_eq_some.mpr ⟨List.getElem?_eq_getElem hi, List.getElem?_eq_getElem (by omega)⟩))
    dsimp only at this
    rw [z] at this
    exact absurd this (by simp)
  refine ⟨full, ?_⟩
  rw [DD_full full]
  have key : ∀ (l : List Field) (r : List Nat), r.length = l.length → (∀ x ∈ l, OkX x) → (∀ z ∈ l.zip r, z.2 < z.1.codes.length) → (l.map fun x => Dx x 1000000000).sum ≤ (usedL l r : Nat) := by
    intro l
    induction l with
    | nil => intro r _ _ _; exact Int.le_of_eq rfl
    | cons x l ih =>
      intro r hr hx hz
      cases r with
      | nil => cases hr
      | cons n r =>
        have i2 := ih r (by simpa using hr) (fun y hy => hx y (List.mem_cons_of_mem _ hy)) fun z hz2 => hz z (List.mem_cons_of_mem _ hz2)
        have ox := hx x List.mem_cons_self
        have hn : n < x.codes.length := hz (x, n) List.mem_cons_self
        have := Dx_far ox.a (fun c hc => (ox.c c hc).k) (List.mem_of_getElem? (codeAt_get hn))
        rw [List.map_cons, List.sum_cons]
        have eu : usedL (x :: l) (n :: r) = (codeAt x n).holes + usedL l r := rfl
        rw [eu]
        omega
  have := key f.fields r pl hf.x c3
  omega
theorem price_eq {f : File} (hf : OkF f) {v : Nat} (e : least f = some v) : bestPrice f = some (bestI f, boundV f (bestI f)) := by
  obtain ⟨full, hz⟩ := price_full hf e
  obtain ⟨h1, h2⟩ := best_spec full hz
  have hin := best_in full h1 h2
  obtain ⟨s1, s2⟩ := sort_fold (prices f) [] List.Pairwise.nil
  rw [best_do]
  have hs : VbenCore.sortBy ltB (prices f) = (prices f).foldl (fun a x => VbenCore.insertBy ltB x a) [] := rfl
  rw [hs]
  have hin2 := (s2 (bestI f)).mpr (.inl hin)
  generalize (prices f).foldl (fun a x => VbenCore.insertBy ltB x a) [] = l at s1 hin2
  cases l with
  | nil => cases hin2
  | cons a l =>
    rw [List.foldl_cons, pick_none full]
    obtain ⟨p1, q, m, g, m2⟩ := pick_fold full l a s1
    rw [q]
    have gb := g _ hin2
    have up : boundV f p1 ≤ boundV f (bestI f) := by
      rcases Nat.lt_or_ge p1 (bestI f) with k | k
      · exact Int.le_of_lt (bound_up h1 (bestI f - p1) p1 (by omega) (by omega))
      · have := bound_down full h2 (p1 - bestI f)
        rw [show bestI f + (p1 - bestI f) = p1 by omega] at this
        exact this
    have hle := m2 _ hin2 (by omega)
    have hp : p1 = bestI f := by
      rcases Nat.lt_or_ge p1 (bestI f) with k | k
      · have := bound_up h1 (bestI f - p1) p1 (by omega) (by omega)
        omega
      · omega
    rw [hp]
end Nt

set_option maxHeartbeats 4000000
namespace Nt
open PySem PySem.Spec PyProof.Rows L2 Evl
open C8 (Cal Mak Met pe_c pe_mk pe_mt pe_mt0 pe_gc)
section
variable {P : Program} {w : World} {K : PySem.W.Frag} {mg : PySem.Str → Option Value} {base : Heap}
namespace answer_bound
abbrev sS : Stmt := s_answer_bound
abbrev nN : List PySem.Str := ["file", "given", "least"]
theorem sc : FnScope nN ["file", "given"] (defScope sS) := ⟨rfl, rfl, rfl, by decide +kernel, rfl, by decide +kernel, by decide +kernel⟩
theorem ok (T : Txt K mg) : CalX P w K mg base 6 "answer_bound" (sp K) := by
  have d_bound := bound.ok (P := P) (w := w) (base := base) T
  have d_refuse_out_of_range := refuse_out_of_range.ok (P := P) (w := w) (base := base) T
  refine calx_of T.d_answer_bound.1 T.d_answer_bound.2 sc len (fun _ _ _ _ _ _ us hl => match us, hl with | [_, _], _ => rfl) fun cdv A outer s H vs Q E hr hs => ⟨_, (pss_cons (ps_expr (pe_cX d_refuse_out_of_range hr (by decide) rfl (takes_of rfl rfl rfl rfl) (pa_cons (pe_ix ix_list (pv 1) pe_int (fun _ _ => rfl)) (pa_cons (pe_gc rfl T.c_MOST_PRICE) pa_nil)))) (pss_cons (ps_set (i := 2) sc.nd rfl (Or.inl rfl) (pe_c d_bound hr (by decide) rfl (pa_cons (pv 0) (pa_cons (pe_ix ix_list (pv 1) pe_int (fun _ _ => rfl)) pa_nil)))) (pss_one (ps_ret (pe_ifExp (pt_cmpR op_isN (pv 2) pe_non (nomark _)) (pe_lst (pa_cons pe_int pa_nil)) (pe_lst (pa_cons pe_int (pa_cons (pv 2) pa_nil)))))))), ?_⟩
  obtain ⟨fa, dx, gv, f, Hb, cl, rfl, hc, F, hf, hk, ig, hE, q⟩ := hs
  obtain ⟨p, rfl⟩ := cl13 hc
  have i0 := ig.mono F.e
  refine q_callX (p, 1000000000) (ad2 (ed_g0n (cl := .bound p) (ed_var rfl i0) rfl) (ed_v ev_c)) trivial (fun c fs e => ?_) fun e H1 e1 => ?_
  · obtain ⟨h2, rfl, hcl⟩ := ranged_err e
    exact (hE _ (run_err h2)).to (err_own T hcl) rfl
  · obtain ⟨hc2, h2⟩ := ranged_ok e
    obtain ⟨k, rfl⟩ : ∃ k : Nat, p = (k : Nat) := ⟨p.toNat, by omega⟩
    rw [Int.toNat_natCast] at h2
    have F1 := F.mono e1
    have r := run_ok (f := f) h2
    rw [bound_eq] at r
    have q' := q _ _ r
    refine q_asg (v := optV (boundI f k)) (ev_callF (f, k) (ad2 (ed_var rfl F1.is) (ed_g0n (cl := .bound (k : Nat)) (d := .i (k : Nat)) (ed_var rfl (i0.mono e1)) rfl)) ⟨hf, by show k ≤ 1000000001; omega⟩ rfl) fun H2 e2 => ?_
    refine s_ans (ans := match boundI f k with | none => [0] | some b => [1, b]) F1 e2 (ed_if (et_isN (o := boundI f k) (ev_var rfl)) (fun z => ?_) fun z => ?_) q'
    · rw [of_decide_eq_true z]
      exact ed_ints1 ev_c
    · obtain ⟨b, hb⟩ := Option.ne_none_iff_exists'.mp (of_decide_eq_false z)
      rw [hb]
      exact ed_ints2 ev_c (ev_var rfl)
end answer_bound
namespace answer_accept
def sp (K : PySem.W.Frag) : Sp := spAns K 12
theorem len : ∀ vs H Q E, sp K vs H Q E → vs.length = 2 := spAns_len
theorem run_err {f : NF} {d : List Int} (h : isLabelsB f d = false) : Vbenaj.run f (.accept d) = .error (-4) := if_pos ((isLabels_eq f d).mpr h)
theorem run_ok {f : NF} {d : List Int} (h : ¬ isLabelsB f d = false) (hd : d.length = (f.fields.length + 1) * (f.holes + 1)) : Vbenaj.run f (.accept d) = .ok (f, match firstWrong f d with | none => [1, d.getD f.holes 0] | some z => [0, (z.1 : Int), (z.2 : Int)]) := by
  refine (if_neg fun z => h ((isLabels_eq f d).mp z)).trans ?_
  rw [badLabel_eq hd]
  cases firstWrong f d <;> rfl
abbrev sS : Stmt := s_answer_accept
abbrev nN : List PySem.Str := ["file", "given", "rows", "wrong"]
theorem sc : FnScope nN ["file", "given"] (defScope sS) := ⟨rfl, rfl, rfl, by decide +kernel, rfl, by decide +kernel, by decide +kernel⟩
theorem ok (T : Txt K mg) : CalX P w K mg base 6 "answer_accept" (sp K) := by
  have d_first_wrong_label := first_wrong_label.ok (P := P) (w := w) (base := base) T
  have d_label_rows := label_rows.ok (P := P) (w := w) (base := base) T
  have d_is_labels := is_labels.ok (P := P) (w := w) (base := base) T
  have i_NotLabels := NotLabels_init.ok (P := P) (w := w) (base := base) T
  refine calx_of T.d_answer_accept.1 T.d_answer_accept.2 sc len (fun _ _ _ _ _ _ us hl => match us, hl with | [_, _], _ => rfl) fun cdv A outer s H vs Q E hr hs => ⟨_, (pss_cons (ps_if (pt_not (pt_val (pe_c d_is_labels hr (by decide) rfl (pa_cons (pv 0) (pa_cons (pe_ix ix_list (pv 1) pe_int (fun _ _ => rfl)) pa_nil))))) (pss_one (ps_rai0 i_NotLabels rfl hr (by decide) (by rfl) (takes_of rfl rfl rfl rfl))) pss_nil) (pss_cons (ps_set (i := 2) sc.nd rfl (Or.inl rfl) (pe_c d_label_rows hr (by decide) rfl (pa_cons (pv 0) (pa_cons (pe_ix ix_list (pv 1) pe_int (fun _ _ => rfl)) pa_nil)))) (pss_cons (ps_set (i := 3) sc.nd rfl (Or.inl rfl) (pe_c d_first_wrong_label hr (by decide) rfl (pa_cons (pv 0) (pa_cons (pv 2) pa_nil)))) (pss_one (ps_ret (pe_ifExp (pt_cmpR op_isN (pv 3) pe_non (nomark _)) (pe_lst (pa_cons pe_int (pa_cons (pe_ix ix_list (pe_ix ix_list (pv 2) pe_int (fun _ _ => rfl)) (pe_fld (pv 0) rfl) (fun _ _ => rfl)) pa_nil))) (pe_op op_cat (pe_lst (pa_cons pe_int pa_nil)) (pv 3)))))))), ?_⟩
  obtain ⟨fa, dx, gv, f, Hb, cl, rfl, hc, F, hf, hk, ig, hE, q⟩ := hs
  obtain ⟨d, rfl⟩ := cl12 hc
  have hl : d.length ≤ 2000 := hk d List.mem_cons_self
  have i0 := ig.mono F.e
  have hh := hf.h
  refine q_when (b := !isLabelsB f d) (et_not (et_test (ev_callF (f, d) (ad2 (ed_var rfl F.is) (ed_g0n (cl := .accept d) (d := intsD d) (ed_var rfl i0) rfl)) ⟨hf, by show d.length ≤ 40000; omega⟩ rfl))) (fun z H1 e1 => ?_) fun z H1 e1 => ?_
  · have z2 : isLabelsB f d = false := by
      cases h : isLabelsB f d with
      | false => rfl
      | true => rw [h] at z; cases z
    exact s_raise (args := no0 (errF (-4))) T.e_NotLabels.1.er ea_nil (by simp) rfl (((hE _ (run_err z2)).mono e1).to T.e_NotLabels.1.own rfl)
  · have z2 : ¬ isLabelsB f d = false := fun h => by rw [h] at z; cases z
    have hd : d.length = (f.fields.length + 1) * (f.holes + 1) := by
      refine Decidable.byContradiction fun h => z2 ?_
      unfold isLabelsB
      rw [if_pos h]
    have F1 := F.mono e1
    have i1 := i0.mono e1
    have q' := q _ _ (run_ok z2 hd)
    refine q_asgD (d := rowsD f d) (ed_callF (f, d) (ad2 (ed_var rfl F1.is) (ed_g0n (cl := .accept d) (d := intsD d) (ed_var rfl i1) rfl)) ⟨hf, hd⟩) fun y H2 e2 iy => ?_
    have F2 := F1.mono e2
    refine q_asgD (d := wrongD (firstWrong f d)) (ed_callF (f, d) (ad2 (ed_var rfl F2.is) (ed_var rfl iy)) ⟨hf, hd⟩) fun y2 H3 e3 iy2 => ?_
    have F3 := F2.mono e3
    have iy3 : Is K H3 y (rowsD f d) := iy.mono e3
    cases hw : firstWrong f d with
    | none =>
      rw [hw] at q' iy2
      cases iy2.val
      refine s_ans (ans := [1, d.getD f.holes 0]) F3 (Ex.refl _) (ed_if (b := true) (et_is (et_isNv (x := .non) (ev_var rfl)) rfl) (fun _ => ?_) fun z => by cases z) q'
      refine ed_ints2 ev_c (ev_ix (i := (f.holes : Int)) (ds := (labelRow f d 0).map fun n => D.v (.int n)) (ed_ix (i := 0) (ed_var rfl iy3) ev_c (atI_nat' (j := 0) ?_)) (ed_file_holes T (ed_var rfl F3.is)) (atI_nat' ?_))
      · rw [List.getElem?_map, List.getElem?_range (by omega)]
        rfl
      · rw [List.getElem?_map, labelRow_getD hd (Nat.zero_le _) (Nat.le_refl _), Nat.zero_mul, Nat.zero_add]
        rfl
    | some z =>
      rw [hw] at q' iy2
      have iy2' : Is K H3 y2 (natsD [z.1, z.2]) := iy2
      refine s_ans (ans := [0, (z.1 : Int), (z.2 : Int)]) F3 (Ex.refl _) (ed_if (b := false) (et_is (et_isNv (ev_var rfl)) iy2'.lst_ref) (fun z => by cases z) fun _ => ?_) q'
      exact ed_iapp (xs := [0]) (ys := [(z.1 : Int), (z.2 : Int)]) (ed_ints1 ev_c) (EvD.eq (ed_var rfl iy2') (nats_ints _)) (by simp)
end answer_accept
namespace answer_price
def sp (K : PySem.W.Frag) : Sp := spAns K 14
theorem len : ∀ vs H Q E, sp K vs H Q E → vs.length = 2 := spAns_len
theorem run_none {f : NF} (h : Vbenaj.least f = none) : Vbenaj.run f .price = .ok (f, [0]) := by
  show (match Vbenaj.least f, Vbenaj.bestPrice f with
    | some v, some x => (Except.ok (f, [1, (x.1 : Int), x.2, (v : Int) - x.2]) : Vbenaj.Res _)
    | _, _ => .ok (f, [0])) = _
  rw [h]
theorem run_some {f : NF} (hf : OkF f) {v : Nat} (h : Vbenaj.least f = some v) : Vbenaj.run f .price = .ok (f, [1, (bestI f : Int), boundV f (bestI f), (v : Int) - boundV f (bestI f)]) := by
  show (match Vbenaj.least f, Vbenaj.bestPrice f with
    | some v, some x => (Except.ok (f, [1, (x.1 : Int), x.2, (v : Int) - x.2]) : Vbenaj.Res _)
    | _, _ => .ok (f, [0])) = _
  rw [price_eq hf h, h]
abbrev sS : Stmt := s_answer_price
abbrev nN : List PySem.Str := ["file", "given", "cost", "price", "least"]
theorem sc : FnScope nN ["file", "given"] (defScope sS) := ⟨rfl, rfl, rfl, by decide +kernel, rfl, by decide +kernel, by decide +kernel⟩
theorem ok (T : Txt K mg) : CalX P w K mg base 7 "answer_price" (sp K) := by
  have d_bound := bound.ok (P := P) (w := w) (base := base) T
  have d_best_price := best_price.ok (P := P) (w := w) (base := base) T
  have d_least_cost := least_cost.ok (P := P) (w := w) (base := base) T
  refine calx_of T.d_answer_price.1 T.d_answer_price.2 sc len (fun _ _ _ _ _ _ us hl => match us, hl with | [_, _], _ => rfl) fun cdv A outer s H vs Q E hr hs => ⟨_, (pss_cons (ps_set (i := 2) sc.nd rfl (Or.inl rfl) (pe_c d_least_cost hr (by decide) rfl (pa_cons (pv 0) pa_nil))) (pss_cons (ps_if (pt_cmpR op_isN (pv 2) pe_non (nomark _)) (pss_one (ps_ret (pe_lst (pa_cons pe_int pa_nil)))) pss_nil) (pss_cons (ps_set (i := 3) sc.nd rfl (Or.inl rfl) (pe_c d_best_price hr (by decide) rfl (pa_cons (pv 0) pa_nil))) (pss_cons (ps_set (i := 4) sc.nd rfl (Or.inl rfl) (pe_c d_bound hr (by decide) rfl (pa_cons (pv 0) (pa_cons (pv 3) pa_nil)))) (pss_one (ps_ret (pe_lst (pa_cons pe_int (pa_cons (pv 3) (pa_cons (pv 4) (pa_cons (pe_op op_sub (pv 2) (pv 4)) pa_nil))))))))))), ?_⟩
  obtain ⟨fa, dx, gv, f, Hb, cl, rfl, hc, F, hf, hk, ig, hE, q⟩ := hs
  obtain rfl := cl14 hc
  have hv := least_I f
  refine q_asg (v := optV ((rowI f.holes f.fields).getD f.holes none)) (ev_callF f (ad1 (ed_var rfl F.is)) hf rfl) fun H1 e1 => ?_
  have F1 := F.mono e1
  cases hl : Vbenaj.least f with
  | none =>
    rw [hl] at hv
    rw [← hv]
    refine q_when (b := true) (et_is (et_isNv (x := .non) (ev_var rfl)) rfl) (fun _ H2 e2 => ?_) fun z => by cases z
    exact s_ans F1 e2 (ed_ints1 ev_c) (q _ _ (run_none hl))
  | some v =>
    rw [hl] at hv
    rw [← hv]
    obtain ⟨full, hz⟩ := price_full hf hl
    have bl : bestI f ≤ 1000000000 := by
      obtain ⟨_, b, _, _⟩ := firstF_spec (rises f) 1000000000 0
      have e : firstF (rises f) 1000000000 0 = bestI f := rfl
      omega
    have hb : boundI f (bestI f) = some (boundV f (bestI f)) := by
      have := bound_full full (bestI f)
      unfold boundV
      rw [this]
      rfl
    refine q_when (b := false) (et_is (et_isNv (x := .int (v : Nat)) (ev_var rfl)) rfl) (fun z => by cases z) fun _ H2 e2 => ?_
    have F2 := F1.mono e2
    refine q_asg (v := .int (bestI f : Nat)) (ev_callF f (ad1 (ed_var rfl F2.is)) ⟨hf, fun p => ⟨_, bound_full full p⟩, rises_mono full⟩ rfl) fun H3 e3 => ?_
    have F3 := F2.mono e3
    refine q_asg (v := .int (boundV f (bestI f))) (ev_callF (f, bestI f) (ad2 (ed_var rfl F3.is) (ed_v (ev_var rfl))) ⟨hf, by show bestI f ≤ 1000000001; omega⟩ (by show D.v (optV (boundI f (bestI f))) = _; rw [hb]; rfl)) fun H4 e4 => ?_
    exact s_ans F3 e4 (ed_ints4 ev_c (ev_var rfl) (ev_var rfl) (ev_sub (ev_var rfl) (ev_var rfl))) (q _ _ (run_some hf hl))
end answer_price
namespace answer_range
def sp (K : PySem.W.Frag) : Sp := spAns K 17
theorem len : ∀ vs H Q E, sp K vs H Q E → vs.length = 2 := spAns_len
theorem run_ok {f : NF} {i c : Int} {m k : Nat} (hk : k < (Vbenaj.fieldAt f m).codes.length) (h : Vbenaj.fieldNo f i = .ok m) (h2 : Vbenaj.codeNo f m c = .ok k) : Vbenaj.run f (.range i c) = .ok (f, match askI (Vbenaj.fieldAt f m) k (besideI f m (Vbenaj.fieldAt f m)) with | none => [0] | some e => [1, e.1, e.2]) := by
  show (Vbenaj.fieldNo f i >>= fun i => Vbenaj.codeNo f i c >>= fun c => match Vbenaj.range_ f i c with
      | none => pure (f, [0])
      | some x => pure (f, VbenCore.ints [1, x.1, x.2]) : Vbenaj.Res _) = _
  rw [h]
  simp only [bind, Except.bind]
  rw [h2, ← range_eq hk]
  dsimp only
  cases Vbenaj.range_ f m k <;> rfl
theorem run_err {f : NF} {i c : Int} {e : Int} (h : Vbenaj.fieldNo f i = .error e ∨ ∃ m, Vbenaj.fieldNo f i = .ok m ∧ Vbenaj.codeNo f m c = .error e) : Vbenaj.run f (.range i c) = .error e := by
  show (Vbenaj.fieldNo f i >>= fun i => Vbenaj.codeNo f i c >>= fun c => match Vbenaj.range_ f i c with
      | none => pure (f, [0])
      | some x => pure (f, VbenCore.ints [1, x.1, x.2]) : Vbenaj.Res _) = _
  rcases h with h | ⟨m, h, h2⟩
  · rw [h]
    rfl
  · rw [h]
    simp only [bind, Except.bind]
    rw [h2]
abbrev sS : Stmt := s_answer_range
abbrev nN : List PySem.Str := ["file", "given", "i", "c", "ends"]
theorem sc : FnScope nN ["file", "given"] (defScope sS) := ⟨rfl, rfl, rfl, by decide +kernel, rfl, by decide +kernel, by decide +kernel⟩
theorem ok (T : Txt K mg) : CalX P w K mg base 8 "answer_range" (sp K) := by
  have d_askings := askings.ok (P := P) (w := w) (base := base) T
  have d_refuse_wrong_code := refuse_wrong_code.ok (P := P) (w := w) (base := base) T
  refine calx_of T.d_answer_range.1 T.d_answer_range.2 sc len (fun _ _ _ _ _ _ us hl => match us, hl with | [_, _], _ => rfl) fun cdv A outer s H vs Q E hr hs => ⟨_, (pss_cons (ps_set (i := 2) sc.nd rfl (Or.inl rfl) (pe_ix ix_list (pv 1) pe_int (fun _ _ => rfl))) (pss_cons (ps_set (i := 3) sc.nd rfl (Or.inl rfl) (pe_ix ix_list (pv 1) pe_int (fun _ _ => rfl))) (pss_cons (ps_expr (pe_cX d_refuse_wrong_code hr (by decide) rfl (takes_of rfl rfl rfl rfl) (pa_cons (pv 0) (pa_cons (pv 2) (pa_cons (pv 3) pa_nil))))) (pss_cons (ps_set (i := 4) sc.nd rfl (Or.inl rfl) (pe_c d_askings hr (by decide) rfl (pa_cons (pv 0) (pa_cons (pv 2) (pa_cons (pv 3) pa_nil))))) (pss_one (ps_ret (pe_ifExp (pt_cmpR op_isN (pv 4) pe_non (nomark _)) (pe_lst (pa_cons pe_int pa_nil)) (pe_op op_cat (pe_lst (pa_cons pe_int pa_nil)) (pv 4))))))))), ?_⟩
  obtain ⟨fa, dx, gv, f, Hb, cl, rfl, hc, F, hf, hk, ig, hE, q⟩ := hs
  obtain ⟨n, c, rfl⟩ := cl17 hc
  have i0 := ig.mono F.e
  have hn := hf.n
  refine q_asg (ed_g0n (cl := .range n c) (d := .i n) (ed_var rfl i0) rfl).ev fun H1 e1 => ?_
  refine q_asg (ed_g1n (cl := .range n c) (d := .i n) (d2 := .i c) (ed_var rfl (i0.mono e1)) rfl).ev fun H2 e2 => ?_
  have F2 := (F.mono e1).mono e2
  refine q_callX (f, n, c) (ad3 (ed_var rfl F2.is) (ed_v (ev_var rfl)) (ed_v (ev_var rfl))) trivial (fun c fs e => ?_) fun e H3 e3 => ?_
  · obtain ⟨z, rfl, hcl, hz⟩ := code_err e
    exact (((hE z (run_err hz)).mono e1).mono e2).to (err_own T hcl) rfl
  · obtain ⟨m, k, rfl, rfl, hm, hk2, hz, hz2⟩ := code_ok e
    have F3 := F2.mono e3
    have q' := q _ _ (run_ok hk2 hz hz2)
    refine q_asgD (d := askD (askI (Vbenaj.fieldAt f m) k (besideI f m (Vbenaj.fieldAt f m)))) (ed_callF (f, m, k, Vbenaj.fieldAt f m) (ad3 (ed_var rfl F3.is) (ed_v (ev_var rfl)) (ed_v (ev_var rfl))) ⟨hf, fieldAt_some hm, hk2⟩) fun y H4 e4 iy => ?_
    have F4 := F3.mono e4
    cases ha : askI (Vbenaj.fieldAt f m) k (besideI f m (Vbenaj.fieldAt f m)) with
    | none =>
      rw [ha] at q' iy
      cases iy.val
      exact s_ans (ans := [0]) F4 (Ex.refl _) (ed_if (b := true) (et_is (et_isNv (x := .non) (ev_var rfl)) rfl) (fun _ => ed_ints1 ev_c) fun z => by cases z) q'
    | some z =>
      rw [ha] at q' iy
      have iy' : Is K H4 y (intsD [z.1, z.2]) := iy
      exact s_ans (ans := [1, z.1, z.2]) F4 (Ex.refl _) (ed_if (b := false) (et_is (et_isNv (ev_var rfl)) iy'.lst_ref) (fun z => by cases z) fun _ => ed_iapp (xs := [1]) (ys := [z.1, z.2]) (ed_ints1 ev_c) (ed_var rfl iy') (by simp)) q'
end answer_range
namespace answer_mean
def sp (K : PySem.W.Frag) : Sp := spAns K 20
theorem len : ∀ vs H Q E, sp K vs H Q E → vs.length = 2 := spAns_len
def askedN (f : NF) : Nat := (f.fields.map fun (x : NX) => x.asked).sum
theorem asked_le {f : NF} (hf : OkF f) : askedN f ≤ 10000 := by
  have hn := hf.n
  have hx : ∀ x ∈ f.fields, x.asked ≤ 1000 := fun x hx => (hf.x x hx).a
  unfold askedN
  have key : ∀ l : List NX, (∀ x ∈ l, x.asked ≤ 1000) → (l.map fun x => x.asked).sum ≤ 1000 * l.length := by
    intro l
    induction l with
    | nil => intro _; simp
    | cons a l ih =>
      intro h
      have := ih fun x hx => h x (List.mem_cons_of_mem _ hx)
      have := h a List.mem_cons_self
      rw [List.map_cons, List.sum_cons, List.length_cons]
      omega
  exact Nat.le_trans (key f.fields hx) (by omega)
theorem run_eq (f : NF) : Vbenaj.run f .mean = (match Vbenaj.least f with
    | none => .ok (f, [0])
    | some v => if askedN f = 0 then .error (-7) else .ok (f, [1, (v : Int) / (Nat.gcd v (askedN f) : Nat), ((askedN f / Nat.gcd v (askedN f) : Nat) : Int)])) := by
  show (match Vbenaj.least f with
      | none => (pure (f, [0]) : Vbenaj.Res _)
      | some v => if (f.fields.map fun (x : NX) => x.asked).foldl (fun a b => a + b) 0 = 0 then .error (-7) else
        pure (f, [1, (VbenCore.frac (v : Int) ((f.fields.map fun (x : NX) => x.asked).foldl (fun a b => a + b) 0)).num, ((VbenCore.frac (v : Int) ((f.fields.map fun (x : NX) => x.asked).foldl (fun a b => a + b) 0)).den : Int)])) = _
  rw [foldl_add0]
  show (match Vbenaj.least f with
      | none => (pure (f, [0]) : Vbenaj.Res _)
      | some v => if askedN f = 0 then .error (-7) else
        pure (f, [1, (VbenCore.frac (v : Int) (askedN f)).num, ((VbenCore.frac (v : Int) (askedN f)).den : Int)])) = _
  cases Vbenaj.least f with
  | none => rfl
  | some v =>
    dsimp only
    by_cases h : askedN f = 0
    · rw [if_pos h, if_pos h]
    · rw [if_neg h, if_neg h]
      unfold VbenCore.frac
      rw [if_neg h]
      rfl
abbrev sS : Stmt := s_answer_mean
abbrev nN : List PySem.Str := ["file", "given", "cost", "asked", "divisor", "field"]
theorem sc : FnScope nN ["file", "given"] (defScope sS) := ⟨rfl, rfl, rfl, by decide +kernel, rfl, by decide +kernel, by decide +kernel⟩
theorem ok (T : Txt K mg) : CalX P w K mg base 7 "answer_mean" (sp K) := by
  have d_greatest_divisor := greatest_divisor.ok (P := P) (w := w) (base := base) T
  have i_NeverAsked := NeverAsked_init.ok (P := P) (w := w) (base := base) T
  have d_least_cost := least_cost.ok (P := P) (w := w) (base := base) T
  refine calx_of T.d_answer_mean.1 T.d_answer_mean.2 sc len (fun _ _ _ _ _ _ us hl => match us, hl with | [_, _], _ => rfl) fun cdv A outer s H vs Q E hr hs => ⟨_, (pss_cons (ps_set (i := 2) sc.nd rfl (Or.inl rfl) (pe_c d_least_cost hr (by decide) rfl (pa_cons (pv 0) pa_nil))) (pss_cons (ps_if (pt_cmpR op_isN (pv 2) pe_non (nomark _)) (pss_one (ps_ret (pe_lst (pa_cons pe_int pa_nil)))) pss_nil) (pss_cons (ps_set (i := 3) sc.nd rfl (Or.inl rfl) (pe_callB (cr_sum rfl) (by rfl) T.f_sum (by decide +kernel) (pa_cons (pe_lc (own := [("field", 5)]) (g := (gName 5)) (tt := tYes) rfl sc.nd (pi_list (pe_fld (pv 0) rfl)) (blkOk_by (own := [("field", 5)]) (N := nN) (sc := defScope sS) (by decide +kernel)) (fun _ _ _ _ _ => pg_name (i := 5) sc.nd rfl (Or.inl rfl)) (fun _ _ _ _ _ => pts_nil) (fun _ _ _ _ _ => (pe_fldK (K := K) rfl (pv 5) rfl))) pa_nil))) (pss_cons (ps_if (pt_cmpR op_eq (pv 3) pe_int (nomark _)) (pss_one (ps_rai0 i_NeverAsked rfl hr (by decide) (by rfl) (takes_of rfl rfl rfl rfl))) pss_nil) (pss_cons (ps_set (i := 4) sc.nd rfl (Or.inl rfl) (pe_c d_greatest_divisor hr (by decide) rfl (pa_cons (pv 2) (pa_cons (pv 3) pa_nil)))) (pss_one (ps_ret (pe_lst (pa_cons pe_int (pa_cons (pe_op op_fdiv (pv 2) (pv 4)) (pa_cons (pe_op op_fdiv (pv 3) (pv 4)) pa_nil))))))))))), ?_⟩
  obtain ⟨fa, dx, gv, f, Hb, cl, rfl, hc, F, hf, hk, ig, hE, q⟩ := hs
  obtain rfl := cl20 hc
  have hv := least_I f
  have al := asked_le hf
  have hn := hf.n
  rw [run_eq] at hE q
  refine q_asg (v := optV ((rowI f.holes f.fields).getD f.holes none)) (ev_callF f (ad1 (ed_var rfl F.is)) hf rfl) fun H1 e1 => ?_
  have F1 := F.mono e1
  cases hl : Vbenaj.least f with
  | none =>
    rw [hl] at hv q
    rw [← hv]
    refine q_when (b := true) (et_is (et_isNv (x := .non) (ev_var rfl)) rfl) (fun _ H2 e2 => ?_) fun z => by cases z
    exact s_ans F1 e2 (ed_ints1 ev_c) (q _ _ rfl)
  | some v =>
    rw [hl] at hv q hE
    rw [← hv]
    dsimp only at q hE
    refine q_when (b := false) (et_is (et_isNv (x := .int (v : Nat)) (ev_var rfl)) rfl) (fun z => by cases z) fun _ H2 e2 => ?_
    have F2 := F1.mono e2
    refine q_asg (v := .int (askedN f : Nat)) (ev_is (ev_sum (ns := f.fields.map fun x => (x.asked : Int)) ?_) ?_) fun H3 e3 => ?_
    · rw [List.map_map]
      exact el_lcM (l := f.fields) (fD := fieldD) (u := fun x => V.int (x.asked : Int)) (ed_file_fields T (ed_var rfl F2.is)) (by omega) (fun _ => rfl) fun i c x H3 e3 hc ic => ed_field_asked T (ed_var rfl ic)
    · congr 1
      unfold askedN
      induction f.fields with
      | nil => rfl
      | cons a l ih =>
        rw [List.map_cons, List.map_cons, List.sum_cons, List.sum_cons, ih]
        omega
    have F3 := F2.mono e3
    refine q_when (b := decide (askedN f = 0)) (et_is (et_eqI (ev_var rfl) ev_c) ?_) (fun z H4 e4 => ?_) fun z H4 e4 => ?_
    · by_cases h : askedN f = 0
      · rw [decide_eq_true h, decide_eq_true (by omega)]
      · rw [decide_eq_false h, decide_eq_false (by omega)]
    · rw [if_pos (of_decide_eq_true z)] at hE
      exact s_raise (args := no0 (errF (-7))) T.e_NeverAsked.1.er ea_nil (by simp) rfl ((((((hE _ rfl).mono e1).mono e2).mono e3).mono e4).to T.e_NeverAsked.1.own rfl)
    · have z2 := of_decide_eq_false z
      rw [if_neg z2] at q
      have F4 := F3.mono e4
      have gp : 0 < Nat.gcd v (askedN f) := Nat.gcd_pos_of_pos_right _ (by omega)
      have gl : Nat.gcd v (askedN f) ≤ askedN f := Nat.gcd_le_right _ (by omega)
      refine q_asg (v := .int (Nat.gcd v (askedN f) : Nat)) (ev_callF (v, askedN f) (ad2 (ed_v (ev_var rfl)) (ed_v (ev_var rfl))) (by show askedN f ≤ 1000000000; omega) (by show D.v (.int (gcdP (askedN f + 1) v (askedN f) : Nat)) = _; rw [gcdP_eq _ _ _ (by omega)])) fun H5 e5 => ?_
      exact s_ans F4 e5 (ed_ints3 ev_c (ev_div (ev_var rfl) (ev_var rfl) (by omega) (by omega)) (ev_is (ev_div (ev_var rfl) (ev_var rfl) (by omega) (by omega)) rfl)) (q _ _ rfl)
end answer_mean
namespace answer_idle
def sp (K : PySem.W.Frag) : Sp := spAns K 21
theorem len : ∀ vs H Q E, sp K vs H Q E → vs.length = 2 := spAns_len
theorem run_ok {f : NF} {i : Int} {m : Nat} (h : Vbenaj.fieldNo f i = .ok m) : Vbenaj.run f (.idle i) = .ok (f, [((idleI (Vbenaj.fieldAt f m)).length : Int)] ++ (idleI (Vbenaj.fieldAt f m)).map fun n => ((n : Nat) : Int)) := by
  show (do let i ← Vbenaj.fieldNo f i; _ : Vbenaj.Res _) = _
  rw [h]
  simp only [bind, Except.bind]
  rw [idle_eq]
  rfl
theorem run_err {f : NF} {i : Int} {e : Int} (h : Vbenaj.fieldNo f i = .error e) : Vbenaj.run f (.idle i) = .error e := by
  show (do let i ← Vbenaj.fieldNo f i; _ : Vbenaj.Res _) = _
  rw [h]
  rfl
abbrev sS : Stmt := s_answer_idle
abbrev nN : List PySem.Str := ["file", "given", "i", "idle"]
theorem sc : FnScope nN ["file", "given"] (defScope sS) := ⟨rfl, rfl, rfl, by decide +kernel, rfl, by decide +kernel, by decide +kernel⟩
theorem ok (T : Txt K mg) : CalX P w K mg base 7 "answer_idle" (sp K) := by
  have d_idle_codes := idle_codes.ok (P := P) (w := w) (base := base) T
  have d_refuse_wrong_field := refuse_wrong_field.ok (P := P) (w := w) (base := base) T
  refine calx_of T.d_answer_idle.1 T.d_answer_idle.2 sc len (fun _ _ _ _ _ _ us hl => match us, hl with | [_, _], _ => rfl) fun cdv A outer s H vs Q E hr hs => ⟨_, (pss_cons (ps_set (i := 2) sc.nd rfl (Or.inl rfl) (pe_ix ix_list (pv 1) pe_int (fun _ _ => rfl))) (pss_cons (ps_expr (pe_cX d_refuse_wrong_field hr (by decide) rfl (takes_of rfl rfl rfl rfl) (pa_cons (pv 0) (pa_cons (pv 2) pa_nil)))) (pss_cons (ps_set (i := 3) sc.nd rfl (Or.inl rfl) (pe_c d_idle_codes hr (by decide) rfl (pa_cons (pe_ix ix_list (pe_fld (pv 0) rfl) (pv 2) (fun _ _ => rfl)) pa_nil))) (pss_one (ps_ret (pe_op op_cat (pe_lst (pa_cons (pe_callB call_len_seq (by rfl) T.f_len PySem.boot_len (pa_cons (pv 3) pa_nil)) pa_nil)) (pv 3))))))), ?_⟩
  obtain ⟨fa, dx, gv, f, Hb, cl, rfl, hc, F, hf, hk, ig, hE, q⟩ := hs
  obtain ⟨n, rfl⟩ := cl21 hc
  have i0 := ig.mono F.e
  refine q_asg (ed_g0n (cl := .idle n) (d := .i n) (ed_var rfl i0) rfl).ev fun H1 e1 => ?_
  have F1 := F.mono e1
  refine q_callX (f, n) (ad2 (ed_var rfl F1.is) (ed_v (ev_var rfl))) trivial (fun c fs e => ?_) fun e H2 e2 => ?_
  · obtain ⟨z, hz, rfl, hcl⟩ := field_err e
    exact ((hE z (run_err hz)).mono e1).to (err_own T hcl) rfl
  · obtain ⟨m, rfl, hm, hz⟩ := field_ok e
    have F2 := F1.mono e2
    have hx := fieldAt_some hm
    have ox := (hf.x _ (List.mem_of_getElem? hx)).n
    have il : (idleI (Vbenaj.fieldAt f m)).length ≤ 8 := by
      unfold idleI
      refine Nat.le_trans (List.length_filter_le _ _) ?_
      rw [List.length_range]
      exact ox
    refine q_asgD (d := natsD (idleI (Vbenaj.fieldAt f m))) (ed_callF (Vbenaj.fieldAt f m) (ad1 (ed_field (ed_file_fields T (ed_var rfl F2.is)) (ev_var rfl) rfl hx)) (by show (Vbenaj.fieldAt f m).codes.length ≤ 1000; omega)) fun y H3 e3 iy => ?_
    exact s_ans F2 e3 (ed_iapp (ed_ints1 (ev_is (ev_lenD (ed_var rfl iy)) (by rw [List.length_map]))) (EvD.eq (ed_var rfl iy) (nats_ints _)) (by rw [List.length_map]; simp; omega)) (q _ _ (run_ok hz))
end answer_idle
end
end Nt

set_option maxHeartbeats 4000000
namespace Nt
open PySem PySem.Spec PyProof.Rows L2 Evl
open C8 (Cal Mak Met pe_c pe_mk pe_mt pe_mt0 pe_gc)
/-! ### the numbers handed in, taken one behind another -/
abbrev cH : PySem.Str := "Handed"
/-- a Handed at ha over the list at ca, Hb: what else stands -/
structure HA (K : PySem.W.Frag) (ha dx ca : Addr) (ns : List Int) (Hb H : Hp) (k : Nat) : Prop where
  e : Ex Hb H
  f : Hb ha = none
  c : SqL K Hb ca (ns.map V.int)
  i : H ha = some (.ins (He.ga K cH) dx [("numbers", .ref ca), ("taken", .int (k : Nat))])
def handedD (a : Addr × Nat) : D := .ins cH ["numbers", "taken"] [.v (.ref a.1), .i (a.2 : Nat)]
section
variable {K : PySem.W.Frag} {ha dx ca : Addr} {ns : List Int} {k k' : Nat} {Hb Hb2 H H' : Hp}
theorem HA.is (W : HA K ha dx ca ns Hb H k) : Is K H (.ref ha) (handedD (ca, k)) := .ins (xs := [.ref ca, .int (k : Nat)]) W.i rfl (.cons (.v _) (.cons (.v _) .nil))
theorem HA.sq (W : HA K ha dx ca ns Hb H k) : SqL K H ca (ns.map V.int) := ex_l W.e W.c
theorem HA.mono (W : HA K ha dx ca ns Hb H k) (e : Ex H H') : HA K ha dx ca ns Hb H' k := ⟨W.e.trans e, W.f, W.c, e _ _ W.i⟩
theorem HA.exd (W : HA K ha dx ca ns Hb H k) : Ex Hb (del H ha) := ex_to_del W.e W.f
theorem HA.up (W : HA K ha dx ca ns Hb H k) : HA K ha dx ca ns (del H ha) H k := ⟨ex_del H ha, del_same, ex_l W.exd W.c, W.i⟩
theorem HA.down (W : HA K ha dx ca ns Hb H k) (e : Ex Hb Hb2) (W' : HA K ha dx ca ns Hb2 H' k') : HA K ha dx ca ns Hb H' k' := ⟨e.trans W'.e, W.f, W.c, W'.i⟩
theorem HA.to (W : HA K ha dx ca ns Hb H k) (e : Ex Hb H') (hi : H' ha = some (.ins (He.ga K cH) dx [("numbers", .ref ca), ("taken", .int (k' : Nat))])) : HA K ha dx ca ns Hb H' k' := ⟨e, W.f, W.c, hi⟩
end
section
variable {P : Program} {w : World} {K : PySem.W.Frag} {mg : PySem.Str → Option Value} {base : Heap}
section
variable {σ : L2.St} {H : Hp} {te : TE} {a : Addr × Nat}
theorem ed_numbers (T : Txt K mg) (h : EvD K te σ H (handedD a)) : Ev (tFld K te "numbers") σ H (.ref a.1) := ev_fld h T.a_Handed_numbers rfl
theorem ed_htaken (T : Txt K mg) (h : EvD K te σ H (handedD a)) : Ev (tFld K te "taken") σ H (.int (a.2 : Nat)) := ev_fld h T.a_Handed_taken rfl
end
namespace Handed_init
def sp (K : PySem.W.Frag) : Sp := fun vs H Q _ => ∃ (p dx : Addr) (x1 : V), vs = [.ref p, x1] ∧ H p = some (.ins (He.ga K cH) dx []) ∧
  ∀ H', (∀ b o, b ≠ p → H b = some o → H' b = some o) → H' p = some (.ins (He.ga K cH) dx [("numbers", x1), ("taken", .int 0)]) → Q .non H'
theorem len : ∀ vs H Q E, sp K vs H Q E → vs.length = 2 := fun vs H Q E ⟨p, dx, x1, e, _⟩ => by rw [e]; rfl
abbrev sS : Stmt := s_Handed_init
abbrev nN : List PySem.Str := ["self", "numbers"]
theorem sc : FnScope nN ["self", "numbers"] (defScope sS) := ⟨rfl, rfl, rfl, by decide +kernel, rfl, by decide +kernel, by decide +kernel⟩
theorem ok (T : Txt K mg) : Mak P w K mg base 1 "Handed" (He.ga K "Handed") (sp K) [] := by
  refine mak_of T.i_Handed T.k_Handed.2.2 T.k_Handed.2.1 sc len (fun _ _ _ _ _ _ us hl => match us, hl with | [_, _], _ => rfl) fun cdv A outer s H vs Q E hr hs => ⟨_, PSs.nox (pss_cons (ps_fld (pv 0) (pv 1) rfl) (pss_one (ps_fld (pv 0) pe_int rfl))), ?_⟩
  obtain ⟨p, dx, x1, rfl, hp, k⟩ := hs
  refine q_fldI (ev_var rfl) (ev_var rfl) hp T.a_Handed_numbers (by decide) fun H1 e1 => ?_
  refine s_fldI ev_c (ev_var rfl) upd_same T.a_Handed_taken put1 fun H2 e2 => ?_
  refine k _ (fun b o hb hb2 => ?_) ?_
  · rw [upd_ne hb]
    refine e2 _ _ ?_
    rw [upd_ne hb]
    exact e1 _ _ hb2
  · rw [upd_same]
    rfl
end Handed_init
namespace Handed_ended
def sp (K : PySem.W.Frag) : Sp := fun vs H Q _ => ∃ ha dx ca ns Hb k, vs = [.ref ha] ∧ HA K ha dx ca ns Hb H k ∧ ∀ H', Ex H H' → Q (.bl (decide (k = ns.length))) H'
theorem len : ∀ vs H Q E, sp K vs H Q E → vs.length = 1 := fun vs H Q E ⟨ha, dx, ca, ns, Hb, k, e, _⟩ => by rw [e]; rfl
abbrev sS : Stmt := s_Handed_ended
abbrev nN : List PySem.Str := ["self"]
theorem sc : FnScope nN ["self"] (defScope sS) := ⟨rfl, rfl, rfl, by decide +kernel, rfl, by decide +kernel, by decide +kernel⟩
theorem ok (T : Txt K mg) : Met P w K mg base 1 (He.ga K "Handed") "ended" (sp K) [] := by
  refine met_of T.h_Handed_ended.1 T.k_Handed.1 T.h_Handed_ended.2 sc len (fun _ _ _ _ _ _ us hl => match us, hl with | [_], _ => rfl) fun cdv A outer s H vs Q E hr hs => ⟨_, PSs.nox (pss_one (ps_ret (pe_cmpR op_eq (pe_fld (pv 0) rfl) (pe_callB call_len_seq (by rfl) T.f_len PySem.boot_len (pa_cons (pe_fld (pv 0) rfl) pa_nil)) (nomark _)))), ?_⟩
  obtain ⟨ha, dx, ca, ns, Hb, k, rfl, W, q⟩ := hs
  have h := ev_op (ed_htaken (σ := [some (.ref ha)]) (H := H) T (ed_var (i := 0) rfl W.is)) (ev_len (ed_numbers T (ed_var (i := 0) rfl W.is)) W.sq) (rv_eq rfl)
  have e : decide (V.int (k : Nat) = V.int ((ns.map V.int).length : Int)) = decide (k = ns.length) := by
    rw [List.length_map]
    simp
    omega
  refine s_retD (K := K) (ed_v (ev_is h (congrArg V.bl e))) fun x H2 e2 ix => ?_
  rw [ix.val]
  exact q H2 e2
end Handed_ended
namespace Handed_take
def sp (K : PySem.W.Frag) : Sp := fun vs H Q _ => ∃ ha dx ca ns Hb k z, vs = [.ref ha] ∧ HA K ha dx ca ns Hb H k ∧ ns[k]? = some z ∧ ∀ H', HA K ha dx ca ns Hb H' (k + 1) → Q (.int z) H'
theorem len : ∀ vs H Q E, sp K vs H Q E → vs.length = 1 := fun vs H Q E ⟨ha, dx, ca, ns, Hb, k, z, e, _⟩ => by rw [e]; rfl
abbrev sS : Stmt := s_Handed_take
abbrev nN : List PySem.Str := ["self", "number"]
theorem sc : FnScope nN ["self"] (defScope sS) := ⟨rfl, rfl, rfl, by decide +kernel, rfl, by decide +kernel, by decide +kernel⟩
theorem ok (T : Txt K mg) : Met P w K mg base 1 (He.ga K "Handed") "take" (sp K) [] := by
  refine met_of T.h_Handed_take.1 T.k_Handed.1 T.h_Handed_take.2 sc len (fun _ _ _ _ _ _ us hl => match us, hl with | [_], _ => rfl) fun cdv A outer s H vs Q E hr hs => ⟨_, PSs.nox (pss_cons (ps_set (i := 1) sc.nd rfl (Or.inl rfl) (pe_ix ix_list (pe_fld (pv 0) rfl) (pe_fld (pv 0) rfl) (fun _ _ => rfl))) (pss_cons (ps_fldaug (pv 0) pe_int in_add) (pss_one (ps_ret (pv 1))))), ?_⟩
  obtain ⟨ha, dx, ca, ns, Hb, k, z, rfl, W, hk, q⟩ := hs
  refine q_asg (v := .int z) (ev_op (ed_numbers T (ed_var rfl W.is)) (ed_htaken T (ed_var rfl W.is)) (rv_ixL W.sq (atI_nat' (by rw [List.getElem?_map, hk]; rfl)))) fun H1 e1 => ?_
  have W1 := W.mono e1
  refine ⟨.ref ha, rfl, ha, _, dx, _, .int (k : Nat), rfl, W1.i, T.k_Handed.1, T.a_Handed_taken.no, rfl, ⟨(k : Nat), 1, rfl, rfl, ⟨dx, _, W1.i, by simp, ?_⟩⟩⟩
  refine ⟨_, rfl, q _ (W1.to (Ex.mut W1.e W1.f) ?_)⟩
  rw [upd_same]
  rfl
end Handed_take
theorem h_take {σ : L2.St} {H : Hp} {Q : VK} {E : XK} {ha dx ca : Addr} {ns : List Int} {Hb : Hp} {k i : Nat} {z : Int} (W : HA K ha dx ca ns Hb H k) (hk : ns[k]? = some z) (ho : σ[i]? = some (some (.ref ha))) (q : ∀ H', HA K ha dx ca ns Hb H' (k + 1) → Q (.int z) H') :
    tMeth (He.ga K cH) "take" (Handed_take.sp K) [] E (tVar i) tNil σ H Q := ⟨.ref ha, ho, ha, dx, _, rfl, W.i, rfl, ⟨ha, dx, ca, ns, Hb, k, z, rfl, W, hk, q⟩⟩
theorem h_ended {σ : L2.St} {H : Hp} {E : XK} {ha dx ca : Addr} {ns : List Int} {Hb : Hp} {k i : Nat} (W : HA K ha dx ca ns Hb H k) (ho : σ[i]? = some (some (.ref ha))) : Ev (tMeth (He.ga K cH) "ended" (Handed_ended.sp K) [] E (tVar i) tNil) σ H (.bl (decide (k = ns.length))) :=
  fun H1 e Q q => ⟨.ref ha, ho, ha, dx, _, rfl, (W.mono e).i, rfl, ⟨ha, dx, ca, ns, Hb, k, rfl, W.mono e, fun H' e' => q H' e'⟩⟩
namespace Handed_take_list
def sp (K : PySem.W.Frag) : Sp := fun vs H Q _ => ∃ ha dx ca ns Hb k l r, vs = [.ref ha] ∧ HA K ha dx ca ns Hb H k ∧ ns.drop k = ((l.length : Nat) : Int) :: (l ++ r) ∧ ns.length ≤ 50000 ∧
  ∀ p Hm, HA K ha dx ca ns Hb Hm (k + (l.length + 1)) → Hm p = none → Q (.ref p) (upd Hm p (.lst (l.map V.int)))
theorem len : ∀ vs H Q E, sp K vs H Q E → vs.length = 1 := fun vs H Q E ⟨ha, dx, ca, ns, Hb, k, l, r, e, _⟩ => by rw [e]; rfl
abbrev sS : Stmt := s_Handed_take_list
abbrev nN : List PySem.Str := ["self", "length", "start"]
theorem sc : FnScope nN ["self"] (defScope sS) := ⟨rfl, rfl, rfl, by decide +kernel, rfl, by decide +kernel, by decide +kernel⟩
theorem ok (T : Txt K mg) : Met P w K mg base 2 (He.ga K "Handed") "take_list" (sp K) [] := by
  have d_Handed_take := Handed_take.ok (P := P) (w := w) (base := base) T
  refine met_of T.h_Handed_take_list.1 T.k_Handed.1 T.h_Handed_take_list.2 sc len (fun _ _ _ _ _ _ us hl => match us, hl with | [_], _ => rfl) fun cdv A outer s H vs Q E hr hs => ⟨_, PSs.nox (pss_cons (ps_set (i := 1) sc.nd rfl (Or.inl rfl) (pe_mt0 d_Handed_take hr (by decide) (pv 0))) (pss_cons (ps_set (i := 2) sc.nd rfl (Or.inl rfl) (pe_fld (pv 0) rfl)) (pss_cons (ps_fldaug (pv 0) (pv 1) in_add) (pss_one (ps_ret (pe_slice sl_list (pe_fld (pv 0) rfl) (po_some (pv 2)) (po_some (pe_fld (pv 0) rfl)))))))), ?_⟩
  obtain ⟨ha, dx, ca, ns, Hb, k, l, r, rfl, W, hk, hn, q⟩ := hs
  have hz : ns[k]? = some ((l.length : Nat) : Int) := by
    have : (ns.drop k)[0]? = some ((l.length : Nat) : Int) := by rw [hk]; rfl
    rw [List.getElem?_drop] at this
    exact this
  have hd : ns.drop (k + 1) = l ++ r := by
    have : (ns.drop k).drop 1 = l ++ r := by rw [hk]; rfl
    rw [List.drop_drop] at this
    exact this
  have hlen : k + 1 + l.length ≤ ns.length := by
    have := congrArg List.length hd
    rw [List.length_drop, List.length_append] at this
    have := (List.getElem?_eq_some_iff.mp hz).1
    omega
  refine h_take (Q := _) W hz rfl fun H1 W1 => ?_
  refine q_asg (v := .int ((k + 1 : Nat) : Int)) (ed_htaken T (ed_var rfl W1.is)) fun H2 e2 => ?_
  have W2 := W1.mono e2
  refine ⟨.ref ha, rfl, ha, _, dx, _, .int ((k + 1 : Nat) : Int), rfl, W2.i, T.k_Handed.1, T.a_Handed_taken.no, rfl, ?_⟩
  refine ⟨_, rfl, ⟨((k + 1 : Nat) : Int), ((l.length : Nat) : Int), rfl, rfl, ⟨dx, _, W2.i, by simp, ?_⟩⟩⟩
  have W3 : HA K ha dx ca ns Hb (upd H2 ha (.ins (He.ga K cH) dx [("numbers", .ref ca), ("taken", .int ((k + (l.length + 1) : Nat) : Int))])) (k + (l.length + 1)) := W2.to (Ex.mut W2.e W2.f) upd_same
  have ez : putF "taken" (V.int (((k + 1 : Nat) : Int) + ((l.length : Nat) : Int))) [("numbers", V.ref ca), ("taken", .int ((k + 1 : Nat) : Int))] = ([("numbers", V.ref ca), ("taken", .int ((k + (l.length + 1) : Nat) : Int))] : List (PySem.Str × V)) := by
    have : ((k + 1 : Nat) : Int) + ((l.length : Nat) : Int) = ((k + (l.length + 1) : Nat) : Int) := by omega
    rw [this]
    rfl
  rw [ez]
  generalize upd H2 ha (.ins (He.ga K cH) dx [("numbers", .ref ca), ("taken", .int ((k + (l.length + 1) : Nat) : Int))]) = H3 at W3
  show tSl (rSlL K) (tFld K (tVar 0) "numbers") (tPart (tVar 2)) (tPart (tFld K (tVar 0) "taken")) [some (.ref ha), some (.int ((l.length : Nat) : Int)), some (.int ((k + 1 : Nat) : Int))] H3 _
  refine ed_numbers (σ := [some (.ref ha), some (.int ((l.length : Nat) : Int)), some (.int ((k + 1 : Nat) : Int))]) T (ed_var (i := 0) rfl W3.is) H3 (Ex.refl _) _ fun H4 e4 => ?_
  refine eo_some (ev_var (σ := [some (.ref ha), some (.int ((l.length : Nat) : Int)), some (.int ((k + 1 : Nat) : Int))]) (i := 2) (v := .int ((k + 1 : Nat) : Int)) rfl) H4 (Ex.refl _) _ fun H5 e5 => ?_
  have W5 := (W3.mono e4).mono e5
  refine eo_some (ed_htaken (σ := [some (.ref ha), some (.int ((l.length : Nat) : Int)), some (.int ((k + 1 : Nat) : Int))]) T (ed_var (i := 0) rfl W5.is)) H5 (Ex.refl _) _ fun H6 e6 => ?_
  refine ⟨ca, ns.map V.int, rfl, (W5.mono e6).sq, fun p hp => ?_⟩
  have ec : cutV (ns.map V.int) (some ((k + 1 : Nat) : Int)) (some ((k + (l.length + 1) : Nat) : Int)) = l.map V.int := by
    unfold cutV
    rw [HT.sIx_nat, HT.sIx_nat, List.length_map, Nat.min_eq_left (by omega), Nat.min_eq_left (by omega), ← List.map_drop, hd, ← List.map_take]
    congr 1
    rw [show k + (l.length + 1) - (k + 1) = l.length by omega]
    exact List.take_left' rfl
  have := q p H6 (W5.mono e6) hp
  rw [← ec] at this
  exact this
end Handed_take_list
theorem h_takeL {σ : L2.St} {H : Hp} {Q : VK} {E : XK} {ha dx ca : Addr} {ns : List Int} {Hb : Hp} {k i : Nat} {l r : List Int} (W : HA K ha dx ca ns Hb H k) (hk : ns.drop k = ((l.length : Nat) : Int) :: (l ++ r)) (hn : ns.length ≤ 50000) (ho : σ[i]? = some (some (.ref ha)))
    (q : ∀ p Hm, HA K ha dx ca ns Hb Hm (k + (l.length + 1)) → Hm p = none → Q (.ref p) (upd Hm p (.lst (l.map V.int)))) :
    tMeth (He.ga K cH) "take_list" (Handed_take_list.sp K) [] E (tVar i) tNil σ H Q := ⟨.ref ha, ho, ha, dx, _, rfl, W.i, rfl, ⟨ha, dx, ca, ns, Hb, k, l, r, rfl, W, hk, hn, q⟩⟩
end
end Nt

set_option maxHeartbeats 4000000
namespace Nt
open PySem PySem.Spec PyProof.Rows L2 Evl
open C8 (Cal Mak Met pe_c pe_mk pe_mt pe_mt0 pe_gc)
/-! ### a call's numbers and lists -/
def listsEnc (ls : List (List Int)) : List Int := ls.flatMap fun l => ((l.length : Nat) : Int) :: l
def argsEnc (cl : VC) : List Int := numsOf cl ++ listsEnc (listsOf cl)
theorem nums_tab (cl : VC) : iTabV numsL (callNo cl) = if (numsOf cl).length = 0 then none else some (.int ((numsOf cl).length : Nat)) := by cases cl <;> rfl
theorem lsts_tab (cl : VC) : iTabV lstsL (callNo cl) = if (listsOf cl).length = 0 then none else some (.int ((listsOf cl).length : Nat)) := by cases cl <;> rfl
theorem tab_get {o : Option V} {n : Nat} (h : o = if n = 0 then none else some (.int (n : Nat))) : o.getD (.int 0) = .int (n : Nat) := by
  rw [h]
  by_cases z : n = 0
  · rw [if_pos z, z]; rfl
  · rw [if_neg z]; rfl
theorem lists_le (cl : VC) : (listsOf cl).length ≤ 1 ∧ (numsOf cl).length ≤ 2 := by cases cl <;> simp [listsOf, numsOf]
theorem ev_kget {σ : L2.St} {H : Hp} {f : Int → Option V} {ty tx : TE} {n : Int} {z : V} (h : Ev ty σ H (.int n)) (hx : Ev tx σ H z) : Ev (tKGet f ty tx) σ H ((f n).getD z) := fun H1 e Q q =>
  h H1 e _ fun H2 e2 => ⟨n, rfl, hx H2 (e.trans e2) _ fun H3 e3 => q H3 (e2.trans e3)⟩
section
variable {P : Program} {w : World} {K : PySem.W.Frag} {mg : PySem.Str → Option Value} {base : Heap}
/-- the numbers, one behind another -/
theorem lc_nums {σ : L2.St} {H : Hp} {Q : VK} {ta : TA} {E : XK} {ha dx ca : Addr} {ns : List Int} {Hb : Hp} {k : Nat} {zs r : List Int} (W : HA K ha dx ca ns Hb H k) (hk : ns.drop k = zs ++ r) (hz : zs.length ≤ 1000) (ht : EvA ta σ H [.int ((zs.length : Nat) : Int)])
    (hw : ∀ x, wipe ((wipe σ [3]).set 3 (some x)) [3] = wipe σ [3]) (ho : ∀ x, ((wipe σ [3]).set 3 (some x))[0]? = some (some (.ref ha)))
    (q : ∀ p H', HA K ha dx ca ns Hb H' (k + zs.length) → H' p = some (.lst (zs.map V.int)) → Q (.ref p) H') : tLc (iRng1 ta) (gName 3) tYes (tMeth (He.ga K cH) "take" (Handed_take.sp K) [] E (tVar 0) tNil) [3] σ H Q := by
  refine ht H (Ex.refl H) _ fun H1 e1 => ⟨((zs.length : Nat) : Int), rfl, by omega, by omega, ?_⟩
  rw [Int.toNat_natCast]
  intro Dl hD
  have W1 := W.mono e1
  have hDb : Hb Dl = none := fresh_back W1.e hD
  have nDh : Dl ≠ ha := fun z => by have := W1.i; rw [← z, hD] at this; cases this
  refine lc_it (walk_range (lo := 0) (n := zs.length)) (Qd := fun H => Q (.ref Dl) H) (fun i H => HA K ha dx ca ns Hb H (k + i) ∧ H Dl = some (.lst ((zs.take i).map V.int))) ⟨W1.to (Ex.mut W1.e hDb) (by rw [upd_ne nDh.symm]; exact W1.i), upd_same⟩ (fun _ _ _ _ => trivial) (fun i x Ha Hc hi p y => ?_) fun H p => ?_
  · obtain ⟨rfl, rfl⟩ := y
    obtain ⟨W2, h2⟩ := p
    refine ⟨hw _, ?_⟩
    unfold tYes
    dsimp only
    rw [if_pos rfl]
    have hzi : ns[k + i]? = some (zs[i]'hi) := by
      have : (ns.drop k)[i]? = some (zs[i]'hi) := by rw [hk, List.getElem?_append_left hi, List.getElem?_eq_getElem hi]
      rw [List.getElem?_drop] at this
      exact this
    have Wd : HA K ha dx ca ns (del Hc ha) Hc (k + i) := W2.up
    refine h_take Wd hzi (ho _) fun H' W3 => ?_
    have hD3 : H' Dl = some (.lst ((zs.take i).map V.int)) := W3.e _ _ (by rw [del_ne nDh]; exact h2)
    have W4 := W2.down W2.exd W3
    refine ⟨_, hD3, sz_lt (by rw [List.length_map, List.length_take]; omega), W4.to (Ex.mut W4.e hDb) (by rw [upd_ne nDh.symm]; exact W4.i), ?_⟩
    rw [upd_same, List.take_succ_eq_append_getElem hi, List.map_append]
    rfl
  · obtain ⟨W2, h2⟩ := p
    rw [List.take_length] at h2
    exact q Dl H W2 h2
theorem q_lcNums {σ : L2.St} {H : Hp} {D1 : Ends} {tz : TS} {ta : TA} {E : XK} {ha dx ca : Addr} {ns : List Int} {Hb : Hp} {k : Nat} {zs r : List Int} (W : HA K ha dx ca ns Hb H k) (hk : ns.drop k = zs ++ r) (hz : zs.length ≤ 1000) (ht : EvA ta σ H [.int ((zs.length : Nat) : Int)])
    (hw : ∀ x, wipe ((wipe σ [3]).set 3 (some x)) [3] = wipe σ [3]) (ho : ∀ x, ((wipe σ [3]).set 3 (some x))[0]? = some (some (.ref ha)))
    (q : ∀ p H', HA K ha dx ca ns Hb H' (k + zs.length) → H' p = some (.lst (zs.map V.int)) → tz D1 (σ.set 2 (some (.ref p))) H') : tSeq (tAsg (tLc (iRng1 ta) (gName 3) tYes (tMeth (He.ga K cH) "take" (Handed_take.sp K) [] E (tVar 0) tNil) [3]) (gName 2)) tz D1 σ H :=
  lc_nums (Q := fun x H' => gName 2 x σ H' (tz D1)) W hk hz ht hw ho q
/-- the lists, each new -/
theorem lc_lists {σ : L2.St} {H : Hp} {Q : VK} {ta : TA} {E : XK} {ha dx ca : Addr} {ns : List Int} {Hb : Hp} {k : Nat} {ls : List (List Int)} {r : List Int} (W : HA K ha dx ca ns Hb H k) (hk : ns.drop k = listsEnc ls ++ r) (hn : ns.length ≤ 50000) (hz : ls.length ≤ 1) (ht : EvA ta σ H [.int ((ls.length : Nat) : Int)])
    (hw : ∀ x, wipe ((wipe σ [3]).set 3 (some x)) [3] = wipe σ [3]) (ho : ∀ x, ((wipe σ [3]).set 3 (some x))[0]? = some (some (.ref ha)))
    (q : ∀ p xs H', HA K ha dx ca ns Hb H' (k + (listsEnc ls).length) → H' p = some (.lst xs) → IsL K H' xs (ls.map intsD) → Q (.ref p) H') : tLc (iRng1 ta) (gName 3) tYes (tMeth (He.ga K cH) "take_list" (Handed_take_list.sp K) [] E (tVar 0) tNil) [3] σ H Q := by
  refine ht H (Ex.refl H) _ fun H1 e1 => ⟨((ls.length : Nat) : Int), rfl, by omega, by omega, ?_⟩
  rw [Int.toNat_natCast]
  intro Dl hD
  have W1 := W.mono e1
  have hDb : Hb Dl = none := fresh_back W1.e hD
  have nDh : Dl ≠ ha := fun z => by have := W1.i; rw [← z, hD] at this; cases this
  have W1' : HA K ha dx ca ns Hb (upd H1 Dl (.lst [])) k := W1.to (Ex.mut W1.e hDb) (by rw [upd_ne nDh.symm]; exact W1.i)
  match ls, hz with
  | [], _ =>
    refine lc_it (walk_range (lo := 0) (n := 0)) (Qd := fun H => Q (.ref Dl) H) (fun i H => HA K ha dx ca ns Hb H k ∧ H Dl = some (.lst [])) ⟨W1', upd_same⟩ (fun _ _ _ _ => trivial) (fun i x Ha Hc hi p y => by omega) fun H p => ?_
    exact q Dl [] H p.1 p.2 .nil
  | [l], _ =>
    have hk' : ns.drop k = ((l.length : Nat) : Int) :: (l ++ r) := by
      rw [hk]
      show (((l.length : Nat) : Int) :: (l ++ [])) ++ r = _
      rw [List.append_nil]
      rfl
    have hl : (listsEnc [l]).length = l.length + 1 := by
      show (((l.length : Nat) : Int) :: (l ++ [])).length = _
      rw [List.append_nil]
      rfl
    rw [hl] at q
    refine lc_it (walk_range (lo := 0) (n := 1)) (Qd := fun H => Q (.ref Dl) H) (fun i H => (i = 0 ∧ HA K ha dx ca ns Hb H k ∧ H Dl = some (.lst [])) ∨ (i = 1 ∧ HA K ha dx ca ns Hb H (k + (l.length + 1)) ∧ ∃ p, p ≠ Dl ∧ H Dl = some (.lst [.ref p]) ∧ H p = some (.lst (l.map V.int)))) (.inl ⟨rfl, W1', upd_same⟩) (fun _ _ _ _ => trivial) (fun i x Ha Hc hi p y => ?_) fun H p => ?_
    · obtain ⟨rfl, rfl⟩ := y
      obtain ⟨rfl, W2, h2⟩ : i = 0 ∧ HA K ha dx ca ns Hb Hc k ∧ Hc Dl = some (.lst []) := by
        rcases p with p | ⟨e, _⟩
        · exact p
        · omega
      refine ⟨hw _, ?_⟩
      unfold tYes
      dsimp only
      rw [if_pos rfl]
      have Wd : HA K ha dx ca ns (del Hc ha) Hc k := W2.up
      refine h_takeL Wd hk' hn (ho _) fun p Hm W3 hp => ?_
      have hD3 : Hm Dl = some (.lst []) := W3.e _ _ (by rw [del_ne nDh]; exact h2)
      have npD : p ≠ Dl := fun z => by rw [z, hD3] at hp; cases hp
      have nph : p ≠ ha := fun z => by have := W3.i; rw [← z, hp] at this; cases this
      have W4 := W2.down W2.exd W3
      have W5 : HA K ha dx ca ns Hb (upd Hm p (.lst (l.map V.int))) (k + (l.length + 1)) := W4.mono (Ex.new hp)
      refine ⟨[], by rw [upd_ne npD.symm]; exact hD3, sz_lt (by simp), .inr ⟨rfl, W5.to (Ex.mut W5.e hDb) (by rw [upd_ne nDh.symm]; exact W5.i), p, npD, ?_, ?_⟩⟩
      · rw [upd_same]; rfl
      · rw [upd_ne npD, upd_same]
    · rcases p with ⟨e, _⟩ | ⟨_, W2, p, npD, h2, h3⟩
      · omega
      · refine q Dl _ H W2 h2 (.cons ?_ .nil)
        rw [intsD_eq]
        exact Is.vals h3
namespace take_given
def sp (K : PySem.W.Frag) : Sp := fun vs H Q _ => ∃ (ha dx ca : Addr) (ns : List Int) (Hb : Hp) (k : Nat) (cl : VC) (r : List Int), vs = [.ref ha, .int (callNo cl : Nat)] ∧ HA K ha dx ca ns Hb H k ∧ ns.drop k = argsEnc cl ++ r ∧ ns.length ≤ 50000 ∧
  ∀ x H', HA K ha dx ca ns Hb H' (k + (argsEnc cl).length) → Is K H' x (.lst (givenD cl)) → Q x H'
theorem len : ∀ vs H Q E, sp K vs H Q E → vs.length = 2 := fun vs H Q E ⟨ha, dx, ca, ns, Hb, k, cl, r, e, _⟩ => by rw [e]; rfl
abbrev sS : Stmt := s_take_given
abbrev nN : List PySem.Str := ["handed", "call", "numbers", "place"]
theorem sc : FnScope nN ["handed", "call"] (defScope sS) := ⟨rfl, rfl, rfl, by decide +kernel, rfl, by decide +kernel, by decide +kernel⟩
theorem ok (T : Txt K mg) : Cal P w K mg base 3 "take_given" (sp K) [] := by
  have d_Handed_take_list := Handed_take_list.ok (P := P) (w := w) (base := base) T
  have d_Handed_take := Handed_take.ok (P := P) (w := w) (base := base) T
  refine cal_of T.d_take_given.1 T.d_take_given.2 sc len (fun _ _ _ _ _ _ us hl => match us, hl with | [_, _], _ => rfl) fun cdv A outer s H vs Q E hr hs => ⟨_, PSs.nox (pss_cons (ps_setLc (i := 2) (own := [("place", 3)]) (g := (gName 3)) (tt := tYes) rfl sc.nd rfl rfl (sw_true rfl rfl rfl (by decide +kernel)) (pi_range1 (by rfl) T.f_range (pa_cons (pe_kget T.t_NUMBERS.2 rfl T.t_NUMBERS.1 (pv 1) pe_int ⟨by rfl, by rfl, by rfl, by rfl⟩) pa_nil)) (blkOk_by (own := [("place", 3)]) (N := nN) (sc := defScope sS) (by decide +kernel)) (fun _ _ _ _ _ => pg_name (i := 3) sc.nd rfl (Or.inl rfl)) (fun _ _ _ _ _ => pts_nil) (fun _ _ _ _ _ => (pe_mt0 d_Handed_take hr (by decide) (pv 0)))) (pss_one (ps_ret (pe_op op_cat (pv 2) (pe_lc (own := [("place", 3)]) (g := (gName 3)) (tt := tYes) rfl sc.nd (pi_range1 (by rfl) T.f_range (pa_cons (pe_kget T.t_LISTS.2 rfl T.t_LISTS.1 (pv 1) pe_int ⟨by rfl, by rfl, by rfl, by rfl⟩) pa_nil)) (blkOk_by (own := [("place", 3)]) (N := nN) (sc := defScope sS) (by decide +kernel)) (fun _ _ _ _ _ => pg_name (i := 3) sc.nd rfl (Or.inl rfl)) (fun _ _ _ _ _ => pts_nil) (fun _ _ _ _ _ => (pe_mt0 d_Handed_take_list hr (by decide) (pv 0)))))))), ?_⟩
  obtain ⟨ha, dx, ca, ns, Hb, k, cl, r, rfl, W, hk, hn, q⟩ := hs
  obtain ⟨l1, l2⟩ := lists_le cl
  unfold argsEnc at hk q
  rw [List.append_assoc] at hk
  refine q_lcNums (σ := [some (.ref ha), some (.int (callNo cl : Nat)), none, none]) (zs := numsOf cl) W hk (by omega) (ea_cons (ev_is (ev_kget (ev_var (i := 1) rfl) ev_c) (tab_get (nums_tab cl))) ea_nil) (fun _ => rfl) (fun _ => rfl) fun p H1 W1 hp => ?_
  have hk2 : ns.drop (k + (numsOf cl).length) = listsEnc (listsOf cl) ++ r := by
    rw [← List.drop_drop, hk]
    exact List.drop_left' rfl
  have nph : p ≠ ha := fun z => by have := W1.i; rw [← z, hp] at this; cases this
  refine ⟨.ref p, rfl, ?_⟩
  refine lc_lists (σ := [some (.ref ha), some (.int (callNo cl : Nat)), some (.ref p), none]) (ls := listsOf cl) (Q := _) W1.up hk2 hn l1 (ea_cons (ev_is (ev_kget (ev_var (i := 1) rfl) ev_c) (tab_get (lsts_tab cl))) ea_nil) (fun _ => rfl) (fun _ => rfl) fun p2 xs H2 W2 hp2 ix => ?_
  have hpp : H2 p = some (.lst ((numsOf cl).map V.int)) := W2.e _ _ (by rw [del_ne nph]; exact hp)
  have W3 := W1.down W1.exd W2
  refine ⟨p, p2, _, xs, rfl, rfl, hpp, hp2, sz_of (by rw [List.length_map, ix.length, List.length_map]; omega), fun n hn2 => ?_⟩
  have en : Ex H2 (upd H2 n (.lst ((numsOf cl).map V.int ++ xs))) := Ex.new hn2
  rw [List.length_append, ← Nat.add_assoc] at q
  refine q _ _ (W3.mono en) (.lst upd_same ?_)
  unfold givenD
  have e1 : (numsOf cl).map D.i = ((numsOf cl).map V.int).map D.v := by rw [List.map_map]; rfl
  rw [e1]
  exact IsL.append (IsL.vals _) (ix.mono en)
end take_given
end
end Nt

set_option maxHeartbeats 4000000
namespace Nt
open PySem PySem.Spec PyProof.Rows L2 Evl
open C8 (Cal Mak Met pe_c pe_mk pe_mt pe_mt0 pe_gc)
/-! ### a call answered -/
def stepC (f : NF) (cl : VC) : NF × List Int := match Vbenaj.run f cl with
  | .ok r => r
  | .error e => (f, [e])
abbrev gaA (K : PySem.W.Frag) (n : Nat) : Addr := He.ga K ((callL.lookup (n : Int)).getD "")
theorem call_lt (cl : VC) : callNo cl < 22 := by cases cl <;> simp [callNo]
theorem call_tab (K : PySem.W.Frag) (cl : VC) : fTabV K callL ((callNo cl : Nat) : Int) = some (.ref (gaA K (callNo cl))) := by cases cl <;> rfl
section
variable {P : Program} {w : World} {K : PySem.W.Frag} {mg : PySem.Str → Option Value} {base : Heap}
theorem callsOk (T : Txt K mg) : ∀ n, n < 22 → ∃ fd ps, FnOk P w K mg base (L2.CX P w) 9 (gaA K n) fd ps (spAns K n) ∧ PySem.W.keepIn K (.ref (gaA K n)) = true ∧ Binds K fd ps [] := by
  have up : ∀ {x : PySem.Str} {k : Nat} {sp : Sp}, CalX P w K mg base k x sp → mg x = some (.ref (He.ga K x)) → k ≤ 9 → ∃ fd ps, FnOk P w K mg base (L2.CX P w) 9 (He.ga K x) fd ps sp ∧ PySem.W.keepIn K (.ref (He.ga K x)) = true ∧ Binds K fd ps [] := fun c hm hk => by
    obtain ⟨fd, ps, F, kp, b⟩ := c.at hm
    exact ⟨fd, ps, F.mono hk, kp, b⟩
  intro n hn
  match n, hn with
  | 0, _ => exact up (answer_clear.ok (P := P) (w := w) (base := base) T) T.d_answer_clear.2 (by decide)
  | 1, _ => exact up (answer_file.ok (P := P) (w := w) (base := base) T) T.d_answer_file.2 (by decide)
  | 2, _ => exact up (answer_look.ok (P := P) (w := w) (base := base) T) T.d_answer_look.2 (by decide)
  | 3, _ => exact up (answer_text.ok (P := P) (w := w) (base := base) T) T.d_answer_text.2 (by decide)
  | 4, _ => exact up (answer_put.ok (P := P) (w := w) (base := base) T) T.d_answer_put.2 (by decide)
  | 5, _ => exact up (answer_drop.ok (P := P) (w := w) (base := base) T) T.d_answer_drop.2 (by decide)
  | 6, _ => exact up (answer_told.ok (P := P) (w := w) (base := base) T) T.d_answer_told.2 (by decide)
  | 7, _ => exact up (answer_least.ok (P := P) (w := w) (base := base) T) T.d_answer_least.2 (by decide)
  | 8, _ => exact up (answer_curve.ok (P := P) (w := w) (base := base) T) T.d_answer_curve.2 (by decide)
  | 9, _ => exact up (answer_count.ok (P := P) (w := w) (base := base) T) T.d_answer_count.2 (by decide)
  | 10, _ => exact up (answer_check.ok (P := P) (w := w) (base := base) T) T.d_answer_check.2 (by decide)
  | 11, _ => exact up (answer_labels.ok (P := P) (w := w) (base := base) T) T.d_answer_labels.2 (by decide)
  | 12, _ => exact up (answer_accept.ok (P := P) (w := w) (base := base) T) T.d_answer_accept.2 (by decide)
  | 13, _ => exact up (answer_bound.ok (P := P) (w := w) (base := base) T) T.d_answer_bound.2 (by decide)
  | 14, _ => exact up (answer_price.ok (P := P) (w := w) (base := base) T) T.d_answer_price.2 (by decide)
  | 15, _ => exact up (answer_with_code.ok (P := P) (w := w) (base := base) T) T.d_answer_with_code.2 (by decide)
  | 16, _ => exact up (answer_without.ok (P := P) (w := w) (base := base) T) T.d_answer_without.2 (by decide)
  | 17, _ => exact up (answer_range.ok (P := P) (w := w) (base := base) T) T.d_answer_range.2 (by decide)
  | 18, _ => exact up (answer_ask.ok (P := P) (w := w) (base := base) T) T.d_answer_ask.2 (by decide)
  | 19, _ => exact up (answer_holes.ok (P := P) (w := w) (base := base) T) T.d_answer_holes.2 (by decide)
  | 20, _ => exact up (answer_mean.ok (P := P) (w := w) (base := base) T) T.d_answer_mean.2 (by decide)
  | 21, _ => exact up (answer_idle.ok (P := P) (w := w) (base := base) T) T.d_answer_idle.2 (by decide)
  | n + 22, h => omega
namespace answer_to
def sp (K : PySem.W.Frag) : Sp := fun vs H Q _ => ∃ (fa dx : Addr) (gv : V) (f : NF) (Hb : Hp) (cl : VC), vs = [.ref fa, .int (callNo cl : Nat), gv] ∧ FA K fa dx f Hb H ∧ OkF f ∧ CallOk cl ∧ Is K Hb gv (.lst (givenD cl)) ∧
  ∀ x H', FA K fa dx (stepC f cl).1 Hb H' → Is K H' x (intsD (stepC f cl).2) → Q x H'
theorem len : ∀ vs H Q E, sp K vs H Q E → vs.length = 3 := fun vs H Q E ⟨fa, dx, gv, f, Hb, cl, e, _⟩ => by rw [e]; rfl
abbrev sS : Stmt := s_answer_to
abbrev nN : List PySem.Str := ["file", "call", "given", "refusal"]
theorem sc : FnScope nN ["file", "call", "given"] (defScope sS) := ⟨rfl, rfl, rfl, by decide +kernel, rfl, by decide +kernel, by decide +kernel⟩
theorem ok (T : Txt K mg) : Cal P w K mg base 10 "answer_to" (sp K) [] := by
  have callF := callsOk (P := P) (w := w) (base := base) T
  refine cal_of T.d_answer_to.1 T.d_answer_to.2 sc len (fun _ _ _ _ _ _ us hl => match us, hl with | [_, _, _], _ => rfl) fun cdv A outer s H vs Q E hr hs => ⟨_, PSs.nox (pss_one (ps_try_as (i := 3) (Wout := (fun _ _ _ _ => False)) rfl rfl sc.nd rfl rfl ⟨rfl, by decide, Or.inl T.e_Refusal.2⟩ takes_no (fun W pn xe wkk _ => (pss_one (ps_ret (pe_callI (ok := fun n => n < 22) (ga := gaA K) (spf := spAns K) callF hr (fun σ => passAt wkk σ) (pe_ix (ix_itab T.t_CALLS.2) (pe_gc (v := .ref (He.ga K "CALLS")) rfl ⟨_, T.t_CALLS.1, rfl⟩) (pv 1) (fun _ _ => rfl)) (pa_cons (pv 0) (pa_cons (pv 2) pa_nil)))))) (fun a oe cls d pn hz hf => (pss_one (ps_ret (pe_lst (pa_cons (pe_xfA (S := fun C => XfC K C ∧ PySem.W.findIn K (.ref C) "number" = some none) (fun _ h => h) hz hf (pv 3)) pa_nil))))))), ?_⟩
  obtain ⟨fa, dx, gv, f, Hb, cl, rfl, F, hf, hk, ig, q⟩ := hs
  refine ⟨.int (callNo cl : Nat), rfl, (callNo cl : Nat), .ref (gaA K (callNo cl)), rfl, rfl, call_tab K cl, callNo cl, call_lt cl, rfl, .ref fa, rfl, gv, rfl, fa, dx, gv, f, Hb, cl, rfl, rfl, F, hf, hk, ig, fun e er => ?_, fun g ans er x H' F' ix => ?_⟩
  · have es : stepC f cl = (f, [e]) := by unfold stepC; rw [er]
    rw [es] at q
    intro c fs d H' own hl ex hd
    refine ⟨true, own.exm, fun _ a ha => ?_, fun z => by cases z⟩
    exact s_ans (σ := [some (.ref fa), some (.int (callNo cl : Nat)), some gv, some (.ref a)]) F ex (ed_ints1 (ev_xf (ev_var (i := 3) rfl) ⟨own.xf, own.num⟩ hd hl)) q
  · have es : stepC f cl = (g, ans) := by unfold stepC; rw [er]
    rw [es] at q
    exact q x H' F' ix
end answer_to
end
end Nt

set_option maxHeartbeats 4000000
namespace Nt
open PySem PySem.Spec PyProof.Rows L2 Evl
open C8 (Cal Mak Met pe_c pe_mk pe_mt pe_mt0 pe_gc)
/-! ### the calls, one behind another -/
def enc1 (cl : VC) : List Int := ((callNo cl : Nat) : Int) :: argsEnc cl
def encC (cls : List VC) : List Int := cls.flatMap enc1
def outs : NF → List VC → List Int
  | _, [] => []
  | f, cl :: r => (((stepC f cl).2.length : Nat) : Int) :: ((stepC f cl).2 ++ outs (stepC f cl).1 r)
/-- what changes: the file, the numbers handed in, the list told; H: what else stands -/
structure LS (K : PySem.W.Frag) (fa dxf ha dxh ca ta : Addr) (ns : List Int) (H : Hp) (f : NF) (k : Nat) (t : List Int) (H' : Hp) : Prop where
  z : H ta = none
  t : H' ta = some (.lst (t.map V.int))
  F : FA K fa dxf f H (del H' ta)
  W : HA K ha dxh ca ns H (del H' ta) k
section
variable {K : PySem.W.Frag} {fa dxf ha dxh ca ta : Addr} {ns : List Int} {H Hb G G' : Hp} {f g : NF} {k k' : Nat} {t : List Int} {H' H'' : Hp}
theorem LS.mono (L : LS K fa dxf ha dxh ca ta ns H f k t H') (e : Ex H' H'') : LS K fa dxf ha dxh ca ta ns H f k t H'' := ⟨L.z, e _ _ L.t, L.F.mono (ex_del2 e), L.W.mono (ex_del2 e)⟩
theorem del_idem {o : HO} (h : G ta = none) : del (upd G ta o) ta = G := by
  rw [del_upd]
  funext b
  by_cases z : b = ta
  · rw [z, del_same, h]
  · rw [del_ne z]
theorem LS.ex (L : LS K fa dxf ha dxh ca ta ns H f k t H') : Ex H H' := L.F.e.trans (ex_del _ _)
theorem upd_upd {o o' : HO} : upd (upd G ta o) ta o' = upd G ta o' := by
  funext b
  by_cases z : b = ta
  · rw [z, upd_same, upd_same]
  · rw [upd_ne z, upd_ne z, upd_ne z]
end
section
variable {P : Program} {w : World} {K : PySem.W.Frag} {mg : PySem.Str → Option Value} {base : Heap}
section
variable {fa dxf ha dxh ca ta : Addr} {ns : List Int} {H Hb G G' : Hp} {f g : NF} {k k' : Nat} {t : List Int} {H' H'' : Hp}
theorem noH_code (T : Txt K mg) (v : NC) : NoC K (He.ga K cH) (codeD v) := .ins T.q_Code_Handed fun d hd => by
  rcases List.mem_cons.mp hd with e | hd
  · rw [e]; exact .v _
  · rcases List.mem_cons.mp hd with e | hd
    · rw [e]; exact .v _
    · rw [List.mem_singleton.mp hd]; exact .v _
theorem noH_field (T : Txt K mg) (v : NX) : NoC K (He.ga K cH) (fieldD v) := .ins T.q_Field_Handed fun d hd => by
  rcases List.mem_cons.mp hd with e | hd
  · rw [e]; exact .v _
  · rcases List.mem_cons.mp hd with e | hd
    · rw [e]; exact .v _
    · rw [List.mem_singleton.mp hd]
      exact .lst fun d hd => by
        obtain ⟨c, _, rfl⟩ := List.mem_map.mp hd
        exact noH_code T c
theorem FH_ne (T : Txt K mg) (F : FA K fa dxf f H G) (W : HA K ha dxh ca ns H G k) : fa ≠ ha := fun z => by
  obtain ⟨fl, h1, _⟩ := F.i
  have h2 := W.i
  rw [z, h2] at h1
  injection h1 with h1
  injection h1 with h1
  exact T.q_CardFile_Handed h1.symm
/-- the file stands where numbers are taken -/
theorem FA.taken (T : Txt K mg) (F : FA K fa dxf f H G) (W : HA K ha dxh ca ns H G k) (e : Ex (del G ha) G') : FA K fa dxf f H G' := by
  have ne := FH_ne T F W
  obtain ⟨fl, h1, h2⟩ := F.i
  refine ⟨(ex_to_del F.e W.f).trans e, F.n, fl, e _ _ (by rw [del_ne ne]; exact h1), ?_⟩
  have hi : (del G fa) ha = some (.ins (He.ga K cH) dxh [("numbers", .ref ca), ("taken", .int (k : Nat))]) := by rw [del_ne ne.symm]; exact W.i
  refine (h2.del hi (noW_map (noH_field T) _)).mono fun b o hb => ?_
  have nb : b ≠ ha := fun z => by rw [z, del_same] at hb; cases hb
  rw [del_ne nb] at hb
  have nf : b ≠ fa := fun z => by rw [z, del_same] at hb; cases hb
  rw [del_ne nf] at hb ⊢
  exact e _ _ (by rw [del_ne nb]; exact hb)
/-- .. and the numbers where the file changes -/
theorem HA.filed (T : Txt K mg) (F : FA K fa dxf f H G) (W : HA K ha dxh ca ns H G k) (e : Ex (del G fa) G') : HA K ha dxh ca ns H G' k := W.to ((ex_to_del W.e F.n).trans e) (e _ _ (by rw [del_ne (FH_ne T F W).symm]; exact W.i))
theorem FA.up (F : FA K fa dxf f Hb H) : FA K fa dxf f (del H fa) H := by
  obtain ⟨fl, h1, h2⟩ := F.i
  exact ⟨ex_del H fa, del_same, fl, h1, h2⟩
theorem FA.down (F : FA K fa dxf f Hb H) (F' : FA K fa dxf g (del H fa) H') : FA K fa dxf g Hb H' := ⟨F.exd.trans F'.e, F.n, F'.i⟩
theorem noF_given (cl : VC) {C : Addr} : NoC K C (.lst (givenD cl)) := .lst fun d hd => by
  unfold givenD at hd
  rcases List.mem_append.mp hd with h | h
  · obtain ⟨z, _, rfl⟩ := List.mem_map.mp h
    exact .v _
  · obtain ⟨l, _, rfl⟩ := List.mem_map.mp h
    exact noW_map (fun n => .v _) l
end
/-- file = CardFile(0, []) -/
theorem q_start {σ : L2.St} {H : Hp} {D1 : Ends} {tz : TS} {ta : TA} {E : XK} (h : EvAD K ta σ H [.i 0, .lst []]) (k : ∀ fa dx H', FA K fa dx Vbenaj.start H H' → tz D1 (σ.set 1 (some (.ref fa))) H') :
    tSeq (tAsg (tMake (He.ga K "CardFile") (CardFile_init.sp K) [] E ta) (gName 1)) tz D1 σ H := h H (Ex.refl H) _ fun vs H2 e2 iv p dx hp hd ne => by
  obtain ⟨a, y, rfl, ia, iy⟩ := iv.a2
  cases ia.val
  refine ⟨p, dx, [.int 0, y], rfl, rfl, upd_same, fun H' kp hp' => ⟨rfl, k p dx H' ⟨?_, fresh_back e2 hp, y, hp', ?_⟩⟩⟩
  · intro b o hb
    have hb1 := e2 _ _ hb
    exact kp b o (ne_of_none hb1 hp) (by rw [upd_ne (ne_of_none hb1 hp), upd_ne (ne_of_none hb1 hd)]; exact hb1)
  · refine iy.mono fun b o hb => ?_
    have nb := ne_of_none hb hp
    rw [del_ne nb]
    exact kp b o nb (by rw [upd_ne nb, upd_ne (ne_of_none hb hd)]; exact hb)
/-- handed = Handed(calls) -/
theorem q_handed {σ : L2.St} {H : Hp} {D1 : Ends} {tz : TS} {E : XK} {ca : Addr} {ns : List Int} {i : Nat} (ho : σ[i]? = some (some (.ref ca))) (hc : SqL K H ca (ns.map V.int)) (k : ∀ ha dx H', HA K ha dx ca ns H H' 0 → tz D1 (σ.set 2 (some (.ref ha))) H') :
    tSeq (tAsg (tMake (He.ga K cH) (Handed_init.sp K) [] E (tCons (tVar i) tNil)) (gName 2)) tz D1 σ H := by
  refine ⟨.ref ca, ho, fun p dx hp hd ne => ?_⟩
  refine ⟨p, dx, .ref ca, rfl, upd_same, fun H' kp hp' => ⟨rfl, k p dx H' ⟨?_, hp, hc, hp'⟩⟩⟩
  intro b o hb
  exact kp b o (ne_of_none hb hp) (by rw [upd_ne (ne_of_none hb hp), upd_ne (ne_of_none hb hd)]; exact hb)
theorem s_appZ {σ : L2.St} {H : Hp} {D1 : Ends} {ta te : TE} {l : Addr} {xs : List V} {x : V} (hl : H l = some (.lst xs)) (ha : Ev ta σ H (.ref l)) (h : Ev te σ H x) (hz : xs.length < sizeLine) (k : ∀ H1, Ex H H1 → D1.nx σ (upd H1 l (.lst (xs ++ [x])))) :
    tDrop (tBM K "list" rAppend ta (tCons te tNil)) D1 σ H := ha H (Ex.refl H) _ fun H1 e1 =>
  ⟨.inl ⟨rfl, xs, sq_of (e1 l _ hl)⟩, h H1 e1 _ fun H2 e2 => ⟨l, xs, x, rfl, rfl, e2 l _ (e1 l _ hl), hz, k H2 (e1.trans e2)⟩⟩
theorem q_appZ {σ : L2.St} {H : Hp} {D1 : Ends} {tz : TS} {ta te : TE} {l : Addr} {xs : List V} {x : V} (hl : H l = some (.lst xs)) (ha : Ev ta σ H (.ref l)) (h : Ev te σ H x) (hz : xs.length < sizeLine) (k : ∀ H1, Ex H H1 → tz D1 σ (upd H1 l (.lst (xs ++ [x])))) :
    tSeq (tDrop (tBM K "list" rAppend ta (tCons te tNil))) tz D1 σ H := s_appZ (D1 := { D1 with nx := tz D1 }) hl ha h hz k
theorem s_extZ {σ : L2.St} {H : Hp} {D1 : Ends} {ta te : TE} {l : Addr} {xs : List V} {zs : List Int} (hl : H l = some (.lst xs)) (ha : Ev ta σ H (.ref l)) (h : EvD K te σ H (intsD zs)) (hz : xs.length + zs.length ≤ sizeLine) (k : ∀ H1, Ex H H1 → D1.nx σ (upd H1 l (.lst (xs ++ zs.map V.int)))) :
    tDrop (tBM K "list" rExtend ta (tCons te tNil)) D1 σ H := ha H (Ex.refl H) _ fun H1 e1 =>
  ⟨.inl ⟨rfl, xs, sq_of (e1 l _ hl)⟩, h H1 e1 _ fun x H2 e2 ix => by
    obtain ⟨p, rfl, h2⟩ := Is.vals_inv (by rw [← intsD_eq]; exact ix)
    exact ⟨l, p, xs, zs.map V.int, rfl, rfl, e2 l _ (e1 l _ hl), h2, by rw [List.length_map]; exact hz, k H2 (e1.trans e2)⟩⟩
namespace answers
def sp (K : PySem.W.Frag) : Sp := fun vs H Q _ => ∃ (ca : Addr) (cls : List VC), vs = [.ref ca] ∧ SqL K H ca ((encC cls).map V.int) ∧ (encC cls).length ≤ 50000 ∧ (∀ cl ∈ cls, CallOk cl) ∧ (∀ f cl, OkF f → OkF (stepC f cl).1) ∧ (outs Vbenaj.start cls).length ≤ 10000000 ∧
  ∀ p H', Ex H H' → H' p = some (.lst ((outs Vbenaj.start cls).map V.int)) → Q (.ref p) H'
theorem len : ∀ vs H Q E, sp K vs H Q E → vs.length = 1 := fun vs H Q E ⟨ca, cls, e, _⟩ => by rw [e]; rfl
theorem enc_nil {r : List VC} {k : Nat} {ns : List Int} (hk : ns.drop k = encC r) (hl : k ≤ ns.length) : k = ns.length ↔ r = [] := by
  constructor
  · intro e
    rw [e, List.drop_length] at hk
    cases r with
    | nil => rfl
    | cons c r => cases hk
  · intro e
    rw [e] at hk
    have : ns.length ≤ k := List.drop_eq_nil_iff.mp hk
    omega
abbrev sS : Stmt := s_answers
abbrev nN : List PySem.Str := ["calls", "file", "handed", "told", "call", "answer"]
theorem sc : FnScope nN ["calls"] (defScope sS) := ⟨rfl, rfl, rfl, by decide +kernel, rfl, by decide +kernel, by decide +kernel⟩
theorem body (T : Txt K mg) (cdv : Value) (A : Around) (outer : List Env) (s : Shared) (H : Hp) (vs : List V) (Q : VK) (E : XK) (hr : Room 10 (A.deeper (envOfC "answers" (defScope sS) s.heap.objs.size (He.ga K "answers") cdv))) (hs : sp K vs H Q E) :
    ∃ t, PSs (cxOf CX0 P w K mg base nN "answers" (defScope sS) (He.ga K "answers") cdv A outer s H E).nox (defBody sS) t ∧ t { nx := fun _ H' => Q .non H', rt := Q } (start nN vs) H := by
  have d_Handed_ended := Handed_ended.ok (P := P) (w := w) (base := base) T
  have d_answer_to := answer_to.ok (P := P) (w := w) (base := base) T
  have d_take_given := take_given.ok (P := P) (w := w) (base := base) T
  have d_Handed_take := Handed_take.ok (P := P) (w := w) (base := base) T
  have m_Handed := Handed_init.ok (P := P) (w := w) (base := base) T
  have m_CardFile := CardFile_init.ok (P := P) (w := w) (base := base) T
  refine ⟨_, PSs.nox (pss_cons (ps_set (i := 1) sc.nd rfl (Or.inl rfl) (pe_mk m_CardFile hr (by decide) rfl (pa_cons pe_int (pa_cons (pe_lst pa_nil) pa_nil)))) (pss_cons (ps_set (i := 2) sc.nd rfl (Or.inl rfl) (pe_mk m_Handed hr (by decide) rfl (pa_cons (pv 0) pa_nil))) (pss_cons (ps_set (i := 3) sc.nd rfl (Or.inl rfl) (pe_lst pa_nil)) (pss_cons (ps_while PassesOwn.never (pt_not (pt_val (pe_mt0 d_Handed_ended hr (by decide) (pv 2)))) (pss_cons (ps_set (i := 4) sc.nd rfl (Or.inl rfl) (pe_mt0 d_Handed_take hr (by decide) (pv 2))) (pss_cons (ps_set (i := 5) sc.nd rfl (Or.inl rfl) (pe_frm (pe_c d_answer_to hr (by decide) rfl (pa_cons (pv 1) (pa_cons (pv 4) (pa_cons (pe_c d_take_given hr (by decide) rfl (pa_cons (pv 2) (pa_cons (pv 4) pa_nil))) pa_nil)))))) (pss_cons (ps_expr (pe_bm PySem.F.plainAttrs_list PySem.F.slot_list_append PySem.F.type_list_append mt_append (pv 3) (pa_cons (pe_callB call_len_seq (by rfl) T.f_len PySem.boot_len (pa_cons (pv 5) pa_nil)) pa_nil))) (pss_one (ps_expr (pe_bm PySem.F.plainAttrs_list PySem.F.slot_list_extend PySem.F.type_list_extend mt_extend (pv 3) (pa_cons (pv 5) pa_nil)))))))) (pss_one (ps_ret (pv 3))))))), ?_⟩
  obtain ⟨ca, cls, rfl, hca, hn, hok, hstep, hol, q⟩ := hs
  refine q_start (ad2 (ed_v ev_c) (ed_lst ad_nil (by simp))) fun fa dxf H1 F1 => ?_
  have hca1 := ex_l F1.e hca
  refine q_handed (i := 0) rfl hca1 fun ha dxh H2 W2 => ?_
  refine q_asgL (el_lst ea_nil (by simp)) fun ta H3 hta e3 hta3 => ?_
  generalize hns : encC cls = ns at hca hca1 hn W2
  have z0 : H ta = none := fresh_back (F1.e.trans W2.e) hta
  have e23 : Ex H2 (del H3 ta) := ex_to_del e3 hta
  have L0 : LS K fa dxf ha dxh ca ta ns H Vbenaj.start 0 [] H3 := ⟨z0, hta3, (F1.mono W2.e).mono e23, ⟨(F1.e.trans W2.e).trans e23, fresh_back F1.e W2.f, hca, e23 _ _ W2.i⟩⟩
  refine q_while (fun m σ' H' => ∃ (f : NF) (k : Nat) (t : List Int) (r : List VC) (c4 c5 : Option V), LS K fa dxf ha dxh ca ta ns H f k t H' ∧ OkF f ∧ (∀ cl ∈ r, CallOk cl) ∧ ns.drop k = encC r ∧ k ≤ ns.length ∧ t ++ outs f r = outs Vbenaj.start cls ∧ m = r.length ∧
    σ' = [some (.ref ca), some (.ref fa), some (.ref ha), some (.ref ta), c4, c5]) cls.length ⟨Vbenaj.start, 0, [], cls, none, none, L0, ⟨Nat.zero_le _, Nat.zero_le _, fun x hx => by cases hx⟩, hok, by rw [← hns]; rfl, Nat.zero_le _, rfl, rfl, rfl⟩ fun m σ' H' ⟨f, k, t, r, c4, c5, L, hf, hr2, hk, hkl, ht, hm, es⟩ => ?_
  subst es hm
  have hb : decide (k = ns.length) = decide (r = []) := decide_eq_decide.mpr (enc_nil hk hkl)
  refine ⟨!decide (k = ns.length), et_not (et_test (h_ended (L.W.mono (ex_del H' ta)) rfl)), fun z H4 e4 => ?_, fun z H4 e4 => ?_⟩
  · refine ⟨_, fun σ2 H2 h => h, ?_⟩
    have hrn : r ≠ [] := fun y => by rw [hb, decide_eq_true y] at z; cases z
    obtain ⟨cl, r, rfl⟩ : ∃ cl r', r = cl :: r' := by
      cases r with
      | nil => exact absurd rfl hrn
      | cons cl r' => exact ⟨cl, r', rfl⟩
    have L4 := L.mono e4
    have hk2 : ns.drop k = ((callNo cl : Nat) : Int) :: (argsEnc cl ++ encC r) := hk
    have hz : ns[k]? = some ((callNo cl : Nat) : Int) := by
      have : (ns.drop k)[0]? = some ((callNo cl : Nat) : Int) := by rw [hk2]; rfl
      rw [List.getElem?_drop] at this
      exact this
    have hd1 : ns.drop (k + 1) = argsEnc cl ++ encC r := by
      have : (ns.drop k).drop 1 = argsEnc cl ++ encC r := by rw [hk2]; rfl
      rw [List.drop_drop] at this
      exact this
    have hlen : k + 1 + (argsEnc cl).length ≤ ns.length := by
      have := congrArg List.length hd1
      rw [List.length_drop, List.length_append] at this
      have := (List.getElem?_eq_some_iff.mp hz).1
      omega
    have nth : ta ≠ ha := fun y => by have := L4.W.i; rw [← y, del_same] at this; cases this
    have W4 : HA K ha dxh ca ns H H4 k := L4.W.mono (ex_del H4 ta)
    -- call = handed.take()
    refine h_take (Q := fun x H' => gName 4 x _ H' _) W4.up hz rfl fun H5 W5 => ?_
    have ht5 : H5 ta = some (.lst (t.map V.int)) := W5.e _ _ (by rw [del_ne nth]; exact L4.t)
    have e45 : Ex (del (del H4 ta) ha) (del H5 ta) := fun b o hb => by
      have nb : b ≠ ha := fun y => by rw [y, del_same] at hb; cases hb
      rw [del_ne nb] at hb
      have nb2 : b ≠ ta := fun y => by rw [y, del_same] at hb; cases hb
      rw [del_ne nb2] at hb ⊢
      exact W5.e _ _ (by rw [del_ne nb]; exact hb)
    have F5 : FA K fa dxf f H (del H5 ta) := L4.F.taken T L4.W e45
    have W5' : HA K ha dxh ca ns H (del H5 ta) (k + 1) := L4.W.to ((ex_to_del L4.W.e L4.W.f).trans e45) (by rw [del_ne nth.symm]; exact W5.i)
    -- answer = answer_to(..)
    refine ⟨ta, t, ht5, .ref fa, rfl, .int (callNo cl : Nat), rfl, .ref ha, rfl, .int (callNo cl : Nat), rfl, ha, dxh, ca, ns, del (del H5 ta) ha, k + 1, cl, encC r, rfl, W5'.up, hd1, hn, fun gv G6 W6 ig => ?_⟩
    have F6 : FA K fa dxf f H G6 := F5.taken T W5' W6.e
    have W6' := W5'.down W5'.exd W6
    obtain ⟨fl6, h61, h62⟩ := F6.i
    refine ⟨fa, dxf, gv, f, del G6 fa, cl, rfl, F6.up, hf, hr2 cl List.mem_cons_self, ig.del h61 (noF_given cl), fun y G7 F7 iy h7 => ?_⟩
    have F7' := F6.down F7
    have W7 : HA K ha dxh ca ns H G7 (k + 1 + (argsEnc cl).length) := HA.filed T F6 W6' F7.e
    have hto : (t ++ ((((stepC f cl).2.length : Nat) : Int) :: ((stepC f cl).2 ++ outs (stepC f cl).1 r))).length ≤ 10000000 := by
      have : t ++ outs f (cl :: r) = _ := ht
      rw [show t ++ ((((stepC f cl).2.length : Nat) : Int) :: ((stepC f cl).2 ++ outs (stepC f cl).1 r)) = outs Vbenaj.start cls from ht]
      exact hol
    rw [List.length_append, List.length_cons, List.length_append] at hto
    have hsz : (10000000 : Nat) < sizeLine := by decide
    have e7 : Ex G7 (upd G7 ta (.lst (t.map V.int))) := Ex.new h7
    refine q_appZ (x := .int ((stepC f cl).2.length : Nat)) upd_same (ev_var rfl) (ev_is (ev_lenD (ed_var rfl (iy.mono e7))) (by rw [List.length_map])) (by rw [List.length_map]; omega) fun H8 e8 => ?_
    have e78 : Ex G7 (del H8 ta) := ex_to_del (e7.trans e8) h7
    have e79 : ∀ o, Ex G7 (upd H8 ta o) := fun o b u hb => by
      have nb := ne_of_none hb h7
      rw [upd_ne nb]
      exact e8 _ _ (e7 _ _ hb)
    refine s_extZ (zs := (stepC f cl).2) upd_same (ev_var rfl) (ed_var rfl (iy.mono (e79 _))) (by rw [List.length_append, List.length_map, List.length_singleton]; omega) fun H9 e9 => ?_
    have e7b : Ex G7 (del H9 ta) := ex_to_del ((e79 _).trans e9) h7
    refine ⟨r.length, by simp, (stepC f cl).1, k + 1 + (argsEnc cl).length, t ++ [((((stepC f cl).2.length : Nat)) : Int)] ++ (stepC f cl).2, r, _, _, ⟨z0, ?_, ?_, ?_⟩, hstep f cl hf, fun c hc => hr2 c (List.mem_cons_of_mem _ hc), ?_, hlen, ?_, rfl, rfl⟩
    · rw [upd_same, List.map_append, List.map_append]
      rfl
    · rw [del_upd]
      exact F7'.mono e7b
    · rw [del_upd]
      exact W7.mono e7b
    · rw [← List.drop_drop, hd1]
      exact List.drop_left' rfl
    · rw [← ht]
      simp [outs]
  · have hr0 : r = [] := by
      by_cases y : r = []
      · exact y
      · rw [hb, decide_eq_false y] at z; cases z
    subst hr0
    have ht2 : t = outs Vbenaj.start cls := by
      rw [← ht]
      exact (List.append_nil t).symm
    have L4 := L.mono e4
    exact ⟨.ref ta, rfl, q ta H4 L4.ex (by rw [← ht2]; exact L4.t)⟩
end answers
end
end Nt

set_option maxHeartbeats 4000000
namespace Nt
open Vbenaj
/-! ### what is handed in, as calls -/
def rowsOf (cl : VC) : List (List Int) := (((callNo cl : Nat) : Int) :: numsOf cl) :: listsOf cl
theorem ok_call {c : List (List Int)} (h : PyFlat.okCall PyVbenaj.shape c) : ∃ cl, c = rowsOf cl := by
  obtain ⟨p, a, xs, rfl, hs⟩ := h
  by_cases h0 : p = 0
  · subst h0
    have hs : (some (0, 0) : Option (Nat × Nat)) = some (a.length, xs.length) := hs
    injection hs with hs
    injection hs with h1 h2
    match a, xs, h1, h2 with
    | [], [], _, _ => exact ⟨.clear , rfl⟩
  by_cases h1 : p = 1
  · subst h1
    have hs : (some (0, 1) : Option (Nat × Nat)) = some (a.length, xs.length) := hs
    injection hs with hs
    injection hs with h1 h2
    match a, xs, h1, h2 with
    | [], [l], _, _ => exact ⟨.file l, rfl⟩
  by_cases h2 : p = 2
  · subst h2
    have hs : (some (0, 1) : Option (Nat × Nat)) = some (a.length, xs.length) := hs
    injection hs with hs
    injection hs with h1 h2
    match a, xs, h1, h2 with
    | [], [l], _, _ => exact ⟨.look l, rfl⟩
  by_cases h3 : p = 3
  · subst h3
    have hs : (some (0, 0) : Option (Nat × Nat)) = some (a.length, xs.length) := hs
    injection hs with hs
    injection hs with h1 h2
    match a, xs, h1, h2 with
    | [], [], _, _ => exact ⟨.text , rfl⟩
  by_cases h4 : p = 4
  · subst h4
    have hs : (some (0, 1) : Option (Nat × Nat)) = some (a.length, xs.length) := hs
    injection hs with hs
    injection hs with h1 h2
    match a, xs, h1, h2 with
    | [], [l], _, _ => exact ⟨.put l, rfl⟩
  by_cases h5 : p = 5
  · subst h5
    have hs : (some (1, 0) : Option (Nat × Nat)) = some (a.length, xs.length) := hs
    injection hs with hs
    injection hs with h1 h2
    match a, xs, h1, h2 with
    | [x], [], _, _ => exact ⟨.drop x, rfl⟩
  by_cases h6 : p = 6
  · subst h6
    have hs : (some (0, 0) : Option (Nat × Nat)) = some (a.length, xs.length) := hs
    injection hs with hs
    injection hs with h1 h2
    match a, xs, h1, h2 with
    | [], [], _, _ => exact ⟨.told , rfl⟩
  by_cases h7 : p = 7
  · subst h7
    have hs : (some (0, 0) : Option (Nat × Nat)) = some (a.length, xs.length) := hs
    injection hs with hs
    injection hs with h1 h2
    match a, xs, h1, h2 with
    | [], [], _, _ => exact ⟨.least , rfl⟩
  by_cases h8 : p = 8
  · subst h8
    have hs : (some (0, 0) : Option (Nat × Nat)) = some (a.length, xs.length) := hs
    injection hs with hs
    injection hs with h1 h2
    match a, xs, h1, h2 with
    | [], [], _, _ => exact ⟨.curve , rfl⟩
  by_cases h9 : p = 9
  · subst h9
    have hs : (some (0, 0) : Option (Nat × Nat)) = some (a.length, xs.length) := hs
    injection hs with hs
    injection hs with h1 h2
    match a, xs, h1, h2 with
    | [], [], _, _ => exact ⟨.count , rfl⟩
  by_cases h10 : p = 10
  · subst h10
    have hs : (some (0, 1) : Option (Nat × Nat)) = some (a.length, xs.length) := hs
    injection hs with hs
    injection hs with h1 h2
    match a, xs, h1, h2 with
    | [], [l], _, _ => exact ⟨.check l, rfl⟩
  by_cases h11 : p = 11
  · subst h11
    have hs : (some (0, 0) : Option (Nat × Nat)) = some (a.length, xs.length) := hs
    injection hs with hs
    injection hs with h1 h2
    match a, xs, h1, h2 with
    | [], [], _, _ => exact ⟨.labels , rfl⟩
  by_cases h12 : p = 12
  · subst h12
    have hs : (some (0, 1) : Option (Nat × Nat)) = some (a.length, xs.length) := hs
    injection hs with hs
    injection hs with h1 h2
    match a, xs, h1, h2 with
    | [], [l], _, _ => exact ⟨.accept l, rfl⟩
  by_cases h13 : p = 13
  · subst h13
    have hs : (some (1, 0) : Option (Nat × Nat)) = some (a.length, xs.length) := hs
    injection hs with hs
    injection hs with h1 h2
    match a, xs, h1, h2 with
    | [x], [], _, _ => exact ⟨.bound x, rfl⟩
  by_cases h14 : p = 14
  · subst h14
    have hs : (some (0, 0) : Option (Nat × Nat)) = some (a.length, xs.length) := hs
    injection hs with hs
    injection hs with h1 h2
    match a, xs, h1, h2 with
    | [], [], _, _ => exact ⟨.price , rfl⟩
  by_cases h15 : p = 15
  · subst h15
    have hs : (some (2, 0) : Option (Nat × Nat)) = some (a.length, xs.length) := hs
    injection hs with hs
    injection hs with h1 h2
    match a, xs, h1, h2 with
    | [x, y], [], _, _ => exact ⟨.with_ x y, rfl⟩
  by_cases h16 : p = 16
  · subst h16
    have hs : (some (1, 0) : Option (Nat × Nat)) = some (a.length, xs.length) := hs
    injection hs with hs
    injection hs with h1 h2
    match a, xs, h1, h2 with
    | [x], [], _, _ => exact ⟨.without x, rfl⟩
  by_cases h17 : p = 17
  · subst h17
    have hs : (some (2, 0) : Option (Nat × Nat)) = some (a.length, xs.length) := hs
    injection hs with hs
    injection hs with h1 h2
    match a, xs, h1, h2 with
    | [x, y], [], _, _ => exact ⟨.range x y, rfl⟩
  by_cases h18 : p = 18
  · subst h18
    have hs : (some (2, 0) : Option (Nat × Nat)) = some (a.length, xs.length) := hs
    injection hs with hs
    injection hs with h1 h2
    match a, xs, h1, h2 with
    | [x, y], [], _, _ => exact ⟨.ask x y, rfl⟩
  by_cases h19 : p = 19
  · subst h19
    have hs : (some (1, 0) : Option (Nat × Nat)) = some (a.length, xs.length) := hs
    injection hs with hs
    injection hs with h1 h2
    match a, xs, h1, h2 with
    | [x], [], _, _ => exact ⟨.holes x, rfl⟩
  by_cases h20 : p = 20
  · subst h20
    have hs : (some (0, 0) : Option (Nat × Nat)) = some (a.length, xs.length) := hs
    injection hs with hs
    injection hs with h1 h2
    match a, xs, h1, h2 with
    | [], [], _, _ => exact ⟨.mean , rfl⟩
  by_cases h21 : p = 21
  · subst h21
    have hs : (some (1, 0) : Option (Nat × Nat)) = some (a.length, xs.length) := hs
    injection hs with hs
    injection hs with h1 h2
    match a, xs, h1, h2 with
    | [x], [], _, _ => exact ⟨.idle x, rfl⟩
  exfalso
  revert hs
  unfold PyVbenaj.shape
  rw [if_neg h0, if_neg h1, if_neg h2, if_neg h3, if_neg h4, if_neg h5, if_neg h6, if_neg h7, if_neg h8, if_neg h9, if_neg h10, if_neg h11, if_neg h12, if_neg h13, if_neg h14, if_neg h15, if_neg h16, if_neg h17, if_neg h18, if_neg h19, if_neg h20, if_neg h21]
  intro hs
  cases hs
theorem put_rows : ∀ ls : List (List Int), PyFlat.putRows ls = listsEnc ls
  | [] => rfl
  | l :: ls => by
    show PyFlat.putRow l ++ PyFlat.putRows ls = _
    rw [put_rows ls]
    rfl
theorem put_enc : ∀ cls : List VC, PyFlat.put (cls.map rowsOf) = encC cls
  | [] => rfl
  | cl :: r => by
    show PyFlat.put1 (rowsOf cl) ++ PyFlat.put (r.map rowsOf) = enc1 cl ++ encC r
    rw [put_enc r]
    congr 1
    show (((callNo cl : Nat) : Int) :: numsOf cl) ++ PyFlat.putRows (listsOf cl) = _
    rw [put_rows]
    rfl
theorem whole_id (cl : VC) : PyVbenaj.whole (rowsOf cl) = rowsOf cl := by cases cl <;> rfl
theorem decode_rows (cl : VC) : Vbenaj.decode (rowsOf cl) = some cl := by cases cl <;> rfl
theorem step_rows (f : File) (cl : VC) : VbenajNeutral.step f (rowsOf cl) = stepC f cl := by
  unfold VbenajNeutral.step Vbenaj.step
  rw [decode_rows]
  rfl
theorem told_outs : ∀ (cls : List VC) (f : File), PyFlat.told (PyFlat.played VbenajNeutral.step f (cls.map rowsOf)) = outs f cls
  | [], _ => rfl
  | cl :: r, f => by
    have ih := told_outs r (stepC f cl).1
    show PyFlat.told ((VbenajNeutral.step f (rowsOf cl)).2 :: PyFlat.played VbenajNeutral.step (VbenajNeutral.step f (rowsOf cl)).1 (r.map rowsOf)) = _
    rw [step_rows]
    unfold PyFlat.told at ih ⊢
    rw [List.flatMap_cons, ih]
    rfl
theorem asked_ok (cl : VC) (h : VbenajNeutral.asked1 (rowsOf cl) = true) : CallOk cl := by
  have row : ∀ l, VbenajNeutral.row l = true → l.length ≤ 2000 := fun l h => by
    unfold VbenajNeutral.row at h
    rw [Bool.and_eq_true] at h
    exact of_decide_eq_true h.1
  intro l hl
  cases cl <;> first | (rw [List.mem_singleton.mp hl]; exact row _ h) | cases hl
theorem asked_inv {l : List Int} (h : PyVbenaj.answers_asked l = true) : ∃ cls : List VC, l = encC cls ∧ (∀ cl ∈ cls, CallOk cl) ∧ (outs start cls).length ≤ 10000000 ∧ PyVbenaj.answers l = outs start cls := by
  unfold PyVbenaj.answers_asked at h
  cases hc : PyFlat.calls PyVbenaj.shape l.length l with
  | none => rw [hc] at h; cases h
  | some raw =>
    rw [hc] at h
    dsimp only at h
    obtain ⟨h1, h2⟩ := PyFlat.put_calls _ _ _ hc
    obtain ⟨cls, rfl⟩ : ∃ cls : List VC, raw = cls.map rowsOf := by
      clear h hc h1
      induction raw with
      | nil => exact ⟨[], rfl⟩
      | cons c r ih =>
        obtain ⟨cl, rfl⟩ := ok_call (h2 c List.mem_cons_self)
        obtain ⟨cls, rfl⟩ := ih fun z hz => h2 z (List.mem_cons_of_mem _ hz)
        exact ⟨cl :: cls, rfl⟩
    have hw : (cls.map rowsOf).map PyVbenaj.whole = cls.map rowsOf := by
      rw [List.map_map]
      exact List.map_congr_left fun cl _ => whole_id cl
    have ha : PyVbenaj.answers l = outs start cls := by
      unfold PyVbenaj.answers PyVbenaj.calls
      rw [hc]
      dsimp only
      rw [hw]
      exact told_outs cls start
    rw [ha, hw] at h
    rw [put_enc] at h1
    simp only [Bool.and_eq_true] at h
    obtain ⟨⟨⟨⟨_, _⟩, _⟩, hk⟩, hs⟩ := h
    refine ⟨cls, h1, fun cl hcl => ?_, of_decide_eq_true hs, ha⟩
    unfold VbenajNeutral.asked at hk
    simp only [Bool.and_eq_true] at hk
    exact asked_ok cl (List.all_eq_true.mp hk.2.2 _ (List.mem_map.mpr ⟨cl, hcl, rfl⟩))
/-! ### a file stays within the document -/
theorem setAt_ok {f : File} {m n : Nat} (hf : OkF f) (hm : m < f.fields.length) (hn : n ≤ 1000) : OkF { f with fields := setAt f.fields m { fieldAt f m with asked := n } } := by
  have ox := hf.x _ (List.mem_of_getElem? (fieldAt_some hm))
  refine ⟨hf.h, by show (setAt _ _ _).length ≤ 10; rw [setAt_length hm]; exact hf.n, fun z hz => ?_⟩
  rcases mem_setAt hz with e | e
  · rw [e]
    exact ⟨hn, ox.n, ox.c, ox.n1, ox.n2, ox.n3⟩
  · exact hf.x z e
theorem field_cases (f : File) (i : Int) : (∃ e, fieldNo f i = .error e) ∨ ∃ m, m < f.fields.length ∧ fieldNo f i = .ok m := by
  cases h : refuse_wrong_field.res (f, i) with
  | none =>
    obtain ⟨m, _, hm, e⟩ := field_ok h
    exact .inr ⟨m, hm, e⟩
  | some z =>
    obtain ⟨e, he, _⟩ := field_err (c := z.1) (fs := z.2) h
    exact .inl ⟨e, he⟩
theorem range_cases (n hi : Int) : (∃ e, ranged n 0 hi = .error e) ∨ ((0 ≤ n ∧ n ≤ hi) ∧ ranged n 0 hi = .ok n.toNat) := by
  cases h : refuse_out_of_range.res (n, hi) with
  | none => exact .inr (ranged_ok h)
  | some z => exact .inl ⟨_, (ranged_err (c := z.1) (fs := z.2) h).1⟩
theorem text_cases (t : List Int) : textIn t = .error (-1) ∨ ((t.all fun c => VbenCore.isBetween c 0 255) = true ∧ t.length ≤ 2000) := by
  by_cases h : (t.all fun c => VbenCore.isBetween c 0 255) = true
  · by_cases hl : t.length ≤ 2000
    · exact .inr ⟨h, hl⟩
    · left
      unfold textIn VbenCore.bytesIn
      rw [if_neg fun z => hl z.2]
  · exact .inl (textIn_err h)
theorem stepC_ok {f : File} {cl : VC} {g : File} {a : List Int} (h : run f cl = .ok (g, a)) : stepC f cl = (g, a) := by unfold stepC; rw [h]
theorem stepC_err {f : File} {cl : VC} {e : Int} (h : run f cl = .error e) : stepC f cl = (f, [e]) := by unfold stepC; rw [h]
theorem step_ok (f : File) (cl : VC) (hf : OkF f) : OkF (stepC f cl).1 := by
  have er : ∀ {e : Int}, run f cl = .error e → OkF (stepC f cl).1 := fun h => by rw [stepC_err h]; exact hf
  have ok : ∀ {g : File} {a : List Int}, run f cl = .ok (g, a) → OkF g → OkF (stepC f cl).1 := fun h hg => by rw [stepC_ok h]; exact hg
  have fe : ∀ {i : Int}, (∃ e, fieldNo f i = .error e) ∨ ∃ m, m < f.fields.length ∧ fieldNo f i = .ok m := fun {i} => field_cases f i
  cases cl with
  | clear => exact ⟨Nat.zero_le _, Nat.zero_le _, fun x hx => by cases hx⟩
  | file t =>
    rcases text_cases t with h | ⟨h, hl⟩
    · exact er (e := -1) (by show (do let b ← textIn t; _ : Res _) = _; rw [h]; rfl)
    · have r := answer_file.run_eq (f := f) h hl
      cases e : readFileP (t.map Int.toNat) with
      | error p => rw [e] at r; exact er r
      | ok g => rw [e] at r; exact ok r (readFileP_ok e)
  | look t =>
    rcases text_cases t with h | ⟨h, hl⟩
    · exact er (e := -1) (by show (do let b ← textIn t; _ : Res _) = _; rw [h]; rfl)
    · have r := answer_look.run_eq (f := f) h hl
      cases e : readFileP (t.map Int.toNat) with
      | error p => rw [e] at r; exact ok r hf
      | ok g => rw [e] at r; exact ok r hf
  | text => exact hf
  | put t =>
    rcases text_cases t with h | ⟨h, hl⟩
    · exact er (e := -1) (by show (do let b ← textIn t; _ : Res _) = _; rw [h]; rfl)
    · have r := answer_put.run_eq (f := f) h hl
      cases e : readLineP f.fields (t.map Int.toNat) with
      | error p => rw [e] at r; exact er r
      | ok fs =>
        rw [e] at r
        have o := (readLineP_ok ⟨hf.n, hf.x⟩ e).1
        exact ok r ⟨hf.h, o.n, o.x⟩
  | drop i =>
    rcases fe (i := i) with ⟨e, h⟩ | ⟨m, hm, h⟩
    · exact er (answer_drop.run_err h)
    · exact ok (answer_drop.run_ok h) (cutAt_ok hf m)
  | told => exact hf
  | least => exact hf
  | curve => exact hf
  | count => exact hf
  | check r =>
    have e := answer_check.run_eq hf r
    by_cases h : isPlanB f.fields r = true
    · rw [if_pos h] at e; exact ok e hf
    · rw [if_neg h] at e; exact er e
  | labels => exact hf
  | accept d =>
    by_cases h : isLabelsB f d = false
    · exact er (answer_accept.run_err h)
    · have hd : d.length = (f.fields.length + 1) * (f.holes + 1) := by
        refine Decidable.byContradiction fun k => h ?_
        unfold isLabelsB
        rw [if_pos k]
      exact ok (answer_accept.run_ok h hd) hf
  | bound p =>
    rcases range_cases p 1000000000 with ⟨e, h⟩ | ⟨hp, h⟩
    · exact er (answer_bound.run_err h)
    · obtain ⟨k, rfl⟩ : ∃ k : Nat, p = (k : Nat) := ⟨p.toNat, by omega⟩
      exact ok (answer_bound.run_ok h) hf
  | price =>
    cases h : least f with
    | none => exact ok (answer_price.run_none h) hf
    | some v => exact ok (answer_price.run_some hf h) hf
  | with_ i c =>
    cases h : refuse_wrong_code.res (f, i, c) with
    | some z =>
      obtain ⟨e, _, _, hz⟩ := code_err (cl := z.1) (fs := z.2) h
      exact er (answer_with_code.run_err hz)
    | none =>
      obtain ⟨m, k, _, _, hm, _, h1, h2⟩ := code_ok h
      exact ok (answer_with_code.run_ok hm h1 h2) hf
  | without i =>
    rcases fe (i := i) with ⟨e, h⟩ | ⟨m, hm, h⟩
    · exact er (answer_without.run_err h)
    · exact ok (answer_without.run_ok h) hf
  | range i c =>
    cases h : refuse_wrong_code.res (f, i, c) with
    | some z =>
      obtain ⟨e, _, _, hz⟩ := code_err (cl := z.1) (fs := z.2) h
      exact er (answer_range.run_err hz)
    | none =>
      obtain ⟨m, k, _, _, hm, hk, h1, h2⟩ := code_ok h
      exact ok (answer_range.run_ok hk h1 h2) hf
  | ask i n =>
    rcases fe (i := i) with ⟨e, h⟩ | ⟨m, hm, h⟩
    · exact er (answer_ask.run_err (.inl h))
    · rcases range_cases n 1000 with ⟨e, h2⟩ | ⟨hp, h2⟩
      · exact er (answer_ask.run_err (.inr ⟨m, h, h2⟩))
      · exact ok (answer_ask.run_ok hm h h2) (setAt_ok hf hm (by omega))
  | holes h =>
    rcases range_cases h 60 with ⟨e, h2⟩ | ⟨hp, h2⟩
    · exact er (answer_holes.run_err h2)
    · exact ok (answer_holes.run_ok h2) ⟨by show h.toNat ≤ 60; omega, hf.n, hf.x⟩
  | mean =>
    have r := answer_mean.run_eq f
    cases h : least f with
    | none => rw [h] at r; exact ok r hf
    | some v =>
      rw [h] at r
      dsimp only at r
      by_cases z : answer_mean.askedN f = 0
      · rw [if_pos z] at r; exact er r
      · rw [if_neg z] at r; exact ok r hf
  | idle i =>
    rcases fe (i := i) with ⟨e, h⟩ | ⟨m, hm, h⟩
    · exact er (answer_idle.run_err h)
    · exact ok (answer_idle.run_ok h) hf
end Nt

set_option maxHeartbeats 4000000
namespace Nt
open PySem PySem.Spec PyProof.Rows L2 Evl
/-! ### the head's facts, looked at by the kernel -/
/-- an own error class -/
def ercB (K : PySem.W.Frag) (C : Addr) : Bool := PySem.W.excInitIn K C Er.above "Exception.__new__" && (PySem.W.excOver K C Er.above && PySem.W.hasDictIn K C)
def errsN : List PySem.Str := ["Refusal", "NotBytes", "NotInRange", "NotAPlan", "NotLabels", "NotThere", "NeverAsked", "Fault"]
/-- all that is asked of one -/
def errB (K : PySem.W.Frag) (c : PySem.Str) : Bool := ercB K (He.ga K c) && (He.eqO (PySem.W.findIn K (.ref (He.ga K c)) "__setattr__") (some (some (.builtin "object.__setattr__"))) && (decide (PySem.W.typeIn K (.ref (He.ga K c)) = some (.type "type")) &&
  (PySem.W.keepIn K (.ref (He.ga K c)) && (xfB K (He.ga K c) && (He.eqO (PySem.W.findIn K (.ref (He.ga K c)) "__init__") (some (some (.ref (He.fAd K (c, some "__init__"))))) && (decide (PySem.W.typeIn K (.ref (He.fAd K (c, some "__init__"))) = some (.type "function")) &&
  (He.eqO (PySem.W.findIn K (.ref (He.ga K c)) "number") (some none) && decide (PySem.W.exmOne K (.ref (He.ga K c)) (.ref (He.ga K "Refusal")) = some true))))))))
theorem errF_ok {K : PySem.W.Frag} {c : PySem.Str} (h : errB K c = true) : ErrF K c := by
  unfold errB at h
  obtain ⟨h1, h⟩ := He.ba h
  obtain ⟨h2, h⟩ := He.ba h
  obtain ⟨h4, h⟩ := He.ba h
  obtain ⟨h5, h⟩ := He.ba h
  obtain ⟨h6, h⟩ := He.ba h
  obtain ⟨h7, h⟩ := He.ba h
  obtain ⟨h8, h⟩ := He.ba h
  obtain ⟨h9, h10⟩ := He.ba h
  have xf := xfB_ok h6
  exact ⟨⟨(He.ba h1).1, (He.ba (He.ba h1).2).1, (He.ba (He.ba h1).2).2, He.eqO_ok h2, xf.exC, of_decide_eq_true h4, h5⟩, xf, He.eqO_ok h7, of_decide_eq_true h8, He.eqO_ok h9, of_decide_eq_true h10⟩
/-- a class's own def, read by the class -/
def clfB (K : PySem.W.Frag) (c m : PySem.Str) : Bool := He.eqO (PySem.W.specialIn K (.ref (He.ga K c)) "__getattribute__") (some (some (.builtin "type.__getattribute__"))) && (PySem.W.readsIn K (He.ga K c) (.type "type") &&
  match PySem.W.findCls K (.ref (He.ga K c)) (.type "type") m with
  | some (.val (.ref b)) => decide (b = He.fAd K (c, some m))
  | _ => false)
theorem clfB_ok {K : PySem.W.Frag} {c m : PySem.Str} (h : clfB K c m = true) : ClF K (He.ga K c) m (He.fAd K (c, some m)) := by
  unfold clfB at h
  obtain ⟨h1, h⟩ := He.ba h
  obtain ⟨h2, h3⟩ := He.ba h
  refine ⟨He.eqO_ok h1, h2, ?_⟩
  split at h3
  · rename_i b e
    rw [e, of_decide_eq_true h3]
  · cases h3
/-- a written dict with whole numbers as keys -/
def entB : List DictEntry → List (Int × V) → Bool
  | [], [] => true
  | e :: es, (k, v) :: l => (match e.key with | .int j _ => decide (j = k) | _ => false) && (decide (e.hash = hashInt k) && (He.relB v e.val && entB es l))
  | _, _ => false
def tabB (K : PySem.W.Frag) (a : Addr) (l : List (Int × V)) : Bool := match K.lookup a with
  | some ⟨.type c, none, .dict es _, sl⟩ => decide (c = "dict") && (sl.isEmpty && (!(a == sysModules) && entB es.toList l))
  | _ => false
theorem ent_ok : ∀ {es : List DictEntry} {l : List (Int × V)}, entB es l = true → (∀ e ∈ es, ∃ k t, e.key = .int k t ∧ e.hash = hashInt k) ∧ ∀ k, (∀ v, l.lookup k = some v → ∃ u, (es.find? fun e => Value.isInt k e.key).map (·.val) = some u ∧ RelV v u) ∧ (l.lookup k = none → (es.find? fun e => Value.isInt k e.key).map (·.val) = none)
  | [], [], _ => ⟨(fun e he => by cases he), fun k => ⟨(fun v h => by cases h), fun _ => rfl⟩⟩
  | [], _ :: _, h => by cases h
  | _ :: _, [], h => by cases h
  | e :: es, (j, v) :: l, h => by
    have h : ((match e.key with | .int i _ => decide (i = j) | _ => false) && (decide (e.hash = hashInt j) && (He.relB v e.val && entB es l))) = true := h
    obtain ⟨h1, h⟩ := He.ba h
    obtain ⟨h2, h⟩ := He.ba h
    obtain ⟨h3, h4⟩ := He.ba h
    obtain ⟨i1, i2⟩ := ent_ok h4
    obtain ⟨t, hk⟩ : ∃ t, e.key = .int j t := by
      split at h1
      · rename_i i t q
        have := of_decide_eq_true h1
        subst this
        exact ⟨t, q⟩
      · cases h1
    have h2 := of_decide_eq_true h2
    refine ⟨fun z hz => ?_, fun k => ?_⟩
    · rcases List.mem_cons.mp hz with q | q
      · rw [q]; exact ⟨j, t, hk, h2⟩
      · exact i1 z q
    · have hi : Value.isInt k e.key = (j == k) := by rw [hk]; rfl
      rw [List.find?_cons, List.lookup_cons, hi]
      by_cases q : k = j
      · subst q
        rw [show (k == k) = true from by simp]
        exact ⟨fun v' hv => by cases hv; exact ⟨e.val, rfl, He.relB_ok h3⟩, fun hv => by cases hv⟩
      · rw [show (k == j) = false from by simp [q], show (j == k) = false from by simp; exact fun z => q z.symm]
        exact i2 k
theorem tabB_ok {K : PySem.W.Frag} {a : Addr} {l : List (Int × V)} {f : Int → Option V} (h : tabB K a l = true) (hf : ∀ k, f k = l.lookup k) : ITab K a f := by
  unfold tabB at h
  split at h
  · rename_i c es n sl hK
    obtain ⟨h1, h⟩ := He.ba h
    obtain ⟨h2, h⟩ := He.ba h
    obtain ⟨h3, h4⟩ := He.ba h
    have h1 := of_decide_eq_true h1
    subst h1
    have h2 : sl = #[] := Array.isEmpty_iff.mp h2
    subst h2
    obtain ⟨i1, i2⟩ := ent_ok h4
    refine ⟨⟨es, n, hK, i1, fun k => ?_⟩, by simpa using h3⟩
    have e : findBy Value.isInt es k = (es.toList.find? fun e => Value.isInt k e.key).map (·.val) := by
      unfold findBy
      rw [Array.find?_toList]
    rw [e, hf]
    exact i2 k
  · cases h
theorem look_map {α : Type} (g : α → V) (k : Int) : ∀ l : List (Int × α), (l.map fun z => (z.1, g z.2)).lookup k = (l.lookup k).map g
  | [] => rfl
  | (j, a) :: l => by
    rw [List.map_cons, List.lookup_cons, List.lookup_cons]
    cases (k == j) with
    | true => rfl
    | false => exact look_map g k l
theorem cint {mg : PySem.Str → Option Value} {x : PySem.Str} {i : Int} (h : ∃ t, mg x = some (.int i t)) : ∃ u, mg x = some u ∧ RelV (.int i) u := by
  obtain ⟨t, h⟩ := h
  exact ⟨_, h, t, rfl⟩
theorem cstr {mg : PySem.Str → Option Value} {x z : PySem.Str} (h : ∃ t, mg x = some (.str z t)) : ∃ u, mg x = some u ∧ RelV (.str z) u := by
  obtain ⟨t, h⟩ := h
  exact ⟨_, h, t, rfl⟩
theorem excI {K : PySem.W.Frag} : PySem.W.findCls K (.type "Exception") (.type "type") "__init__" = some (.val (.builtin "Exception.__init__")) := by kernel_rfl

def dd_with_field : He.DefD := ⟨("with_field", none), "with_field", "with_field", defArgs s_with_field, defBody s_with_field, defScope s_with_field, [], []⟩
def dd_with_code : He.DefD := ⟨("with_code", none), "with_code", "with_code", defArgs s_with_code, defBody s_with_code, defScope s_with_code, [], []⟩
def dd_without_field : He.DefD := ⟨("without_field", none), "without_field", "without_field", defArgs s_without_field, defBody s_without_field, defScope s_without_field, [], []⟩
def dd_with_asked : He.DefD := ⟨("with_asked", none), "with_asked", "with_asked", defArgs s_with_asked, defBody s_with_asked, defScope s_with_asked, [], []⟩
def dd_with_only_code : He.DefD := ⟨("with_only_code", none), "with_only_code", "with_only_code", defArgs s_with_only_code, defBody s_with_only_code, defScope s_with_only_code, [], []⟩
def dd_table : He.DefD := ⟨("table", none), "table", "table", defArgs s_table, defBody s_table, defScope s_table, [], []⟩
def dd_last_row : He.DefD := ⟨("last_row", none), "last_row", "last_row", defArgs s_last_row, defBody s_last_row, defScope s_last_row, [], []⟩
def dd_row_ahead : He.DefD := ⟨("row_ahead", none), "row_ahead", "row_ahead", defArgs s_row_ahead, defBody s_row_ahead, defScope s_row_ahead, [], []⟩
def dd_costs_with : He.DefD := ⟨("costs_with", none), "costs_with", "costs_with", defArgs s_costs_with, defBody s_costs_with, defScope s_costs_with, [], []⟩
def dd_least_of : He.DefD := ⟨("least_of", none), "least_of", "least_of", defArgs s_least_of, defBody s_least_of, defScope s_least_of, [], []⟩
def dd_curve : He.DefD := ⟨("curve", none), "curve", "curve", defArgs s_curve, defBody s_curve, defScope s_curve, [], []⟩
def dd_least_cost : He.DefD := ⟨("least_cost", none), "least_cost", "least_cost", defArgs s_least_cost, defBody s_least_cost, defScope s_least_cost, [], []⟩
def dd_least_plan : He.DefD := ⟨("least_plan", none), "least_plan", "least_plan", defArgs s_least_plan, defBody s_least_plan, defScope s_least_plan, [], []⟩
def dd_least_plan_with : He.DefD := ⟨("least_plan_with", none), "least_plan_with", "least_plan_with", defArgs s_least_plan_with, defBody s_least_plan_with, defScope s_least_plan_with, [], []⟩
def dd_least_count : He.DefD := ⟨("least_count", none), "least_count", "least_count", defArgs s_least_count, defBody s_least_count, defScope s_least_count, [], []⟩
def dd_counts_ahead : He.DefD := ⟨("counts_ahead", none), "counts_ahead", "counts_ahead", defArgs s_counts_ahead, defBody s_counts_ahead, defScope s_counts_ahead, [], []⟩
def dd_count_with : He.DefD := ⟨("count_with", none), "count_with", "count_with", defArgs s_count_with, defBody s_count_with, defScope s_count_with, [], []⟩
def dd_is_plan : He.DefD := ⟨("is_plan", none), "is_plan", "is_plan", defArgs s_is_plan, defBody s_is_plan, defScope s_is_plan, [], []⟩
def dd_plan_holes : He.DefD := ⟨("plan_holes", none), "plan_holes", "plan_holes", defArgs s_plan_holes, defBody s_plan_holes, defScope s_plan_holes, [], []⟩
def dd_plan_cost : He.DefD := ⟨("plan_cost", none), "plan_cost", "plan_cost", defArgs s_plan_cost, defBody s_plan_cost, defScope s_plan_cost, [], []⟩
def dd_is_labels : He.DefD := ⟨("is_labels", none), "is_labels", "is_labels", defArgs s_is_labels, defBody s_is_labels, defScope s_is_labels, [], []⟩
def dd_label_rows : He.DefD := ⟨("label_rows", none), "label_rows", "label_rows", defArgs s_label_rows, defBody s_label_rows, defScope s_label_rows, [], []⟩
def dd_greatest_labels : He.DefD := ⟨("greatest_labels", none), "greatest_labels", "greatest_labels", defArgs s_greatest_labels, defBody s_greatest_labels, defScope s_greatest_labels, [], []⟩
def dd_first_wrong_label : He.DefD := ⟨("first_wrong_label", none), "first_wrong_label", "first_wrong_label", defArgs s_first_wrong_label, defBody s_first_wrong_label, defScope s_first_wrong_label, [], []⟩
def dd_bound : He.DefD := ⟨("bound", none), "bound", "bound", defArgs s_bound, defBody s_bound, defScope s_bound, [], []⟩
def dd_least_priced : He.DefD := ⟨("least_priced", none), "least_priced", "least_priced", defArgs s_least_priced, defBody s_least_priced, defScope s_least_priced, [], []⟩
def dd_best_price : He.DefD := ⟨("best_price", none), "best_price", "best_price", defArgs s_best_price, defBody s_best_price, defScope s_best_price, [], []⟩
def dd_signs_of : He.DefD := ⟨("signs_of", none), "signs_of", "signs_of", defArgs s_signs_of, defBody s_signs_of, defScope s_signs_of, [], []⟩
def dd_words_of : He.DefD := ⟨("words_of", none), "words_of", "words_of", defArgs s_words_of, defBody s_words_of, defScope s_words_of, [], []⟩
def dd_words_of_line : He.DefD := ⟨("words_of_line", none), "words_of_line", "words_of_line", defArgs s_words_of_line, defBody s_words_of_line, defScope s_words_of_line, [], []⟩
def dd_read_file : He.DefD := ⟨("read_file", none), "read_file", "read_file", defArgs s_read_file, defBody s_read_file, defScope s_read_file, [], []⟩
def dd_read_line : He.DefD := ⟨("read_line", none), "read_line", "read_line", defArgs s_read_line, defBody s_read_line, defScope s_read_line, [], []⟩
def dd_take_line : He.DefD := ⟨("take_line", none), "take_line", "take_line", defArgs s_take_line, defBody s_take_line, defScope s_take_line, [], []⟩
def dd_take_field : He.DefD := ⟨("take_field", none), "take_field", "take_field", defArgs s_take_field, defBody s_take_field, defScope s_take_field, [], []⟩
def dd_take_code : He.DefD := ⟨("take_code", none), "take_code", "take_code", defArgs s_take_code, defBody s_take_code, defScope s_take_code, [], []⟩
def dd_take_word : He.DefD := ⟨("take_word", none), "take_word", "take_word", defArgs s_take_word, defBody s_take_word, defScope s_take_word, [], []⟩
def dd_take_name : He.DefD := ⟨("take_name", none), "take_name", "take_name", defArgs s_take_name, defBody s_take_name, defScope s_take_name, [], []⟩
def dd_take_number : He.DefD := ⟨("take_number", none), "take_number", "take_number", defArgs s_take_number, defBody s_take_number, defScope s_take_number, [], []⟩
def dd_is_name : He.DefD := ⟨("is_name", none), "is_name", "is_name", defArgs s_is_name, defBody s_is_name, defScope s_is_name, [], []⟩
def dd_is_number : He.DefD := ⟨("is_number", none), "is_number", "is_number", defArgs s_is_number, defBody s_is_number, defScope s_is_number, [], []⟩
def dd_costs_beside : He.DefD := ⟨("costs_beside", none), "costs_beside", "costs_beside", defArgs s_costs_beside, defBody s_costs_beside, defScope s_costs_beside, [], []⟩
def dd_askings : He.DefD := ⟨("askings", none), "askings", "askings", defArgs s_askings, defBody s_askings, defScope s_askings, [], []⟩
def dd_least_asked : He.DefD := ⟨("least_asked", none), "least_asked", "least_asked", defArgs s_least_asked, defBody s_least_asked, defScope s_least_asked, [], []⟩
def dd_greatest_asked : He.DefD := ⟨("greatest_asked", none), "greatest_asked", "greatest_asked", defArgs s_greatest_asked, defBody s_greatest_asked, defScope s_greatest_asked, [], []⟩
def dd_idle_codes : He.DefD := ⟨("idle_codes", none), "idle_codes", "idle_codes", defArgs s_idle_codes, defBody s_idle_codes, defScope s_idle_codes, [], []⟩
def dd_is_idle : He.DefD := ⟨("is_idle", none), "is_idle", "is_idle", defArgs s_is_idle, defBody s_is_idle, defScope s_is_idle, [], []⟩
def dd_outdoes : He.DefD := ⟨("outdoes", none), "outdoes", "outdoes", defArgs s_outdoes, defBody s_outdoes, defScope s_outdoes, [], []⟩
def dd_text_of : He.DefD := ⟨("text_of", none), "text_of", "text_of", defArgs s_text_of, defBody s_text_of, defScope s_text_of, [], []⟩
def dd_field_line : He.DefD := ⟨("field_line", none), "field_line", "field_line", defArgs s_field_line, defBody s_field_line, defScope s_field_line, [], []⟩
def dd_code_line : He.DefD := ⟨("code_line", none), "code_line", "code_line", defArgs s_code_line, defBody s_code_line, defScope s_code_line, [], []⟩
def dd_refuse_wrong_bytes : He.DefD := ⟨("refuse_wrong_bytes", none), "refuse_wrong_bytes", "refuse_wrong_bytes", defArgs s_refuse_wrong_bytes, defBody s_refuse_wrong_bytes, defScope s_refuse_wrong_bytes, [], []⟩
def dd_refuse_out_of_range : He.DefD := ⟨("refuse_out_of_range", none), "refuse_out_of_range", "refuse_out_of_range", defArgs s_refuse_out_of_range, defBody s_refuse_out_of_range, defScope s_refuse_out_of_range, [], []⟩
def dd_refuse_wrong_field : He.DefD := ⟨("refuse_wrong_field", none), "refuse_wrong_field", "refuse_wrong_field", defArgs s_refuse_wrong_field, defBody s_refuse_wrong_field, defScope s_refuse_wrong_field, [], []⟩
def dd_refuse_wrong_code : He.DefD := ⟨("refuse_wrong_code", none), "refuse_wrong_code", "refuse_wrong_code", defArgs s_refuse_wrong_code, defBody s_refuse_wrong_code, defScope s_refuse_wrong_code, [], []⟩
def dd_plan_told : He.DefD := ⟨("plan_told", none), "plan_told", "plan_told", defArgs s_plan_told, defBody s_plan_told, defScope s_plan_told, [], []⟩
def dd_costs_told : He.DefD := ⟨("costs_told", none), "costs_told", "costs_told", defArgs s_costs_told, defBody s_costs_told, defScope s_costs_told, [], []⟩
def dd_greatest_divisor : He.DefD := ⟨("greatest_divisor", none), "greatest_divisor", "greatest_divisor", defArgs s_greatest_divisor, defBody s_greatest_divisor, defScope s_greatest_divisor, [], []⟩
def dd_answer_clear : He.DefD := ⟨("answer_clear", none), "answer_clear", "answer_clear", defArgs s_answer_clear, defBody s_answer_clear, defScope s_answer_clear, [], []⟩
def dd_answer_file : He.DefD := ⟨("answer_file", none), "answer_file", "answer_file", defArgs s_answer_file, defBody s_answer_file, defScope s_answer_file, [], []⟩
def dd_answer_look : He.DefD := ⟨("answer_look", none), "answer_look", "answer_look", defArgs s_answer_look, defBody s_answer_look, defScope s_answer_look, [], []⟩
def dd_answer_text : He.DefD := ⟨("answer_text", none), "answer_text", "answer_text", defArgs s_answer_text, defBody s_answer_text, defScope s_answer_text, [], []⟩
def dd_answer_put : He.DefD := ⟨("answer_put", none), "answer_put", "answer_put", defArgs s_answer_put, defBody s_answer_put, defScope s_answer_put, [], []⟩
def dd_answer_drop : He.DefD := ⟨("answer_drop", none), "answer_drop", "answer_drop", defArgs s_answer_drop, defBody s_answer_drop, defScope s_answer_drop, [], []⟩
def dd_answer_told : He.DefD := ⟨("answer_told", none), "answer_told", "answer_told", defArgs s_answer_told, defBody s_answer_told, defScope s_answer_told, [], []⟩
def dd_answer_least : He.DefD := ⟨("answer_least", none), "answer_least", "answer_least", defArgs s_answer_least, defBody s_answer_least, defScope s_answer_least, [], []⟩
def dd_answer_curve : He.DefD := ⟨("answer_curve", none), "answer_curve", "answer_curve", defArgs s_answer_curve, defBody s_answer_curve, defScope s_answer_curve, [], []⟩
def dd_answer_count : He.DefD := ⟨("answer_count", none), "answer_count", "answer_count", defArgs s_answer_count, defBody s_answer_count, defScope s_answer_count, [], []⟩
def dd_answer_check : He.DefD := ⟨("answer_check", none), "answer_check", "answer_check", defArgs s_answer_check, defBody s_answer_check, defScope s_answer_check, [], []⟩
def dd_answer_labels : He.DefD := ⟨("answer_labels", none), "answer_labels", "answer_labels", defArgs s_answer_labels, defBody s_answer_labels, defScope s_answer_labels, [], []⟩
def dd_answer_accept : He.DefD := ⟨("answer_accept", none), "answer_accept", "answer_accept", defArgs s_answer_accept, defBody s_answer_accept, defScope s_answer_accept, [], []⟩
def dd_answer_bound : He.DefD := ⟨("answer_bound", none), "answer_bound", "answer_bound", defArgs s_answer_bound, defBody s_answer_bound, defScope s_answer_bound, [], []⟩
def dd_answer_price : He.DefD := ⟨("answer_price", none), "answer_price", "answer_price", defArgs s_answer_price, defBody s_answer_price, defScope s_answer_price, [], []⟩
def dd_answer_with_code : He.DefD := ⟨("answer_with_code", none), "answer_with_code", "answer_with_code", defArgs s_answer_with_code, defBody s_answer_with_code, defScope s_answer_with_code, [], []⟩
def dd_answer_without : He.DefD := ⟨("answer_without", none), "answer_without", "answer_without", defArgs s_answer_without, defBody s_answer_without, defScope s_answer_without, [], []⟩
def dd_answer_range : He.DefD := ⟨("answer_range", none), "answer_range", "answer_range", defArgs s_answer_range, defBody s_answer_range, defScope s_answer_range, [], []⟩
def dd_answer_ask : He.DefD := ⟨("answer_ask", none), "answer_ask", "answer_ask", defArgs s_answer_ask, defBody s_answer_ask, defScope s_answer_ask, [], []⟩
def dd_answer_holes : He.DefD := ⟨("answer_holes", none), "answer_holes", "answer_holes", defArgs s_answer_holes, defBody s_answer_holes, defScope s_answer_holes, [], []⟩
def dd_answer_mean : He.DefD := ⟨("answer_mean", none), "answer_mean", "answer_mean", defArgs s_answer_mean, defBody s_answer_mean, defScope s_answer_mean, [], []⟩
def dd_answer_idle : He.DefD := ⟨("answer_idle", none), "answer_idle", "answer_idle", defArgs s_answer_idle, defBody s_answer_idle, defScope s_answer_idle, [], []⟩
def dd_take_given : He.DefD := ⟨("take_given", none), "take_given", "take_given", defArgs s_take_given, defBody s_take_given, defScope s_take_given, [], []⟩
def dd_answer_to : He.DefD := ⟨("answer_to", none), "answer_to", "answer_to", defArgs s_answer_to, defBody s_answer_to, defScope s_answer_to, [], []⟩
def dd_answers : He.DefD := ⟨("answers", none), "answers", "answers", defArgs s_answers, defBody s_answers, defScope s_answers, [], []⟩
def dd_Code_init : He.DefD := ⟨("Code", some "__init__"), "__init__", "Code.__init__", defArgs s_Code_init, defBody s_Code_init, defScope s_Code_init, [], []⟩
def dd_Field_init : He.DefD := ⟨("Field", some "__init__"), "__init__", "Field.__init__", defArgs s_Field_init, defBody s_Field_init, defScope s_Field_init, [], []⟩
def dd_Field_cost_in_all : He.DefD := ⟨("Field", some "cost_in_all"), "cost_in_all", "Field.cost_in_all", defArgs s_Field_cost_in_all, defBody s_Field_cost_in_all, defScope s_Field_cost_in_all, [], []⟩
def dd_CardFile_init : He.DefD := ⟨("CardFile", some "__init__"), "__init__", "CardFile.__init__", defArgs s_CardFile_init, defBody s_CardFile_init, defScope s_CardFile_init, [], []⟩
def dd_CardFile_become : He.DefD := ⟨("CardFile", some "become"), "become", "CardFile.become", defArgs s_CardFile_become, defBody s_CardFile_become, defScope s_CardFile_become, [], []⟩
def dd_Refusal_init : He.DefD := ⟨("Refusal", some "__init__"), "__init__", "Refusal.__init__", defArgs s_Refusal_init, defBody s_Refusal_init, defScope s_Refusal_init, [], []⟩
def dd_NotBytes_init : He.DefD := ⟨("NotBytes", some "__init__"), "__init__", "NotBytes.__init__", defArgs s_NotBytes_init, defBody s_NotBytes_init, defScope s_NotBytes_init, [], []⟩
def dd_NotInRange_init : He.DefD := ⟨("NotInRange", some "__init__"), "__init__", "NotInRange.__init__", defArgs s_NotInRange_init, defBody s_NotInRange_init, defScope s_NotInRange_init, [], []⟩
def dd_NotAPlan_init : He.DefD := ⟨("NotAPlan", some "__init__"), "__init__", "NotAPlan.__init__", defArgs s_NotAPlan_init, defBody s_NotAPlan_init, defScope s_NotAPlan_init, [], []⟩
def dd_NotLabels_init : He.DefD := ⟨("NotLabels", some "__init__"), "__init__", "NotLabels.__init__", defArgs s_NotLabels_init, defBody s_NotLabels_init, defScope s_NotLabels_init, [], []⟩
def dd_NotThere_init : He.DefD := ⟨("NotThere", some "__init__"), "__init__", "NotThere.__init__", defArgs s_NotThere_init, defBody s_NotThere_init, defScope s_NotThere_init, [], []⟩
def dd_NeverAsked_init : He.DefD := ⟨("NeverAsked", some "__init__"), "__init__", "NeverAsked.__init__", defArgs s_NeverAsked_init, defBody s_NeverAsked_init, defScope s_NeverAsked_init, [], []⟩
def dd_Fault_init : He.DefD := ⟨("Fault", some "__init__"), "__init__", "Fault.__init__", defArgs s_Fault_init, defBody s_Fault_init, defScope s_Fault_init, [], []⟩
def dd_Word_init : He.DefD := ⟨("Word", some "__init__"), "__init__", "Word.__init__", defArgs s_Word_init, defBody s_Word_init, defScope s_Word_init, [], []⟩
def dd_Words_init : He.DefD := ⟨("Words", some "__init__"), "__init__", "Words.__init__", defArgs s_Words_init, defBody s_Words_init, defScope s_Words_init, [], []⟩
def dd_Words_ended : He.DefD := ⟨("Words", some "ended"), "ended", "Words.ended", defArgs s_Words_ended, defBody s_Words_ended, defScope s_Words_ended, [], []⟩
def dd_Words_ahead : He.DefD := ⟨("Words", some "ahead"), "ahead", "Words.ahead", defArgs s_Words_ahead, defBody s_Words_ahead, defScope s_Words_ahead, [], []⟩
def dd_Words_where : He.DefD := ⟨("Words", some "where"), "where", "Words.where", defArgs s_Words_where, defBody s_Words_where, defScope s_Words_where, [], []⟩
def dd_Words_move_on : He.DefD := ⟨("Words", some "move_on"), "move_on", "Words.move_on", defArgs s_Words_move_on, defBody s_Words_move_on, defScope s_Words_move_on, [], []⟩
def dd_Handed_init : He.DefD := ⟨("Handed", some "__init__"), "__init__", "Handed.__init__", defArgs s_Handed_init, defBody s_Handed_init, defScope s_Handed_init, [], []⟩
def dd_Handed_ended : He.DefD := ⟨("Handed", some "ended"), "ended", "Handed.ended", defArgs s_Handed_ended, defBody s_Handed_ended, defScope s_Handed_ended, [], []⟩
def dd_Handed_take : He.DefD := ⟨("Handed", some "take"), "take", "Handed.take", defArgs s_Handed_take, defBody s_Handed_take, defScope s_Handed_take, [], []⟩
def dd_Handed_take_list : He.DefD := ⟨("Handed", some "take_list"), "take_list", "Handed.take_list", defArgs s_Handed_take_list, defBody s_Handed_take_list, defScope s_Handed_take_list, [], []⟩
def fn0 : List He.DefD := [dd_with_field, dd_with_code, dd_without_field, dd_with_asked, dd_with_only_code, dd_table, dd_last_row, dd_row_ahead, dd_costs_with, dd_least_of, dd_curve, dd_least_cost, dd_least_plan, dd_least_plan_with, dd_least_count, dd_counts_ahead, dd_count_with, dd_is_plan, dd_plan_holes, dd_plan_cost, dd_is_labels, dd_label_rows, dd_greatest_labels, dd_first_wrong_label, dd_bound, dd_least_priced, dd_best_price, dd_signs_of, dd_words_of, dd_words_of_line]
def fn1 : List He.DefD := [dd_read_file, dd_read_line, dd_take_line, dd_take_field, dd_take_code, dd_take_word, dd_take_name, dd_take_number, dd_is_name, dd_is_number, dd_costs_beside, dd_askings, dd_least_asked, dd_greatest_asked, dd_idle_codes, dd_is_idle, dd_outdoes, dd_text_of, dd_field_line, dd_code_line, dd_refuse_wrong_bytes, dd_refuse_out_of_range, dd_refuse_wrong_field, dd_refuse_wrong_code, dd_plan_told, dd_costs_told, dd_greatest_divisor, dd_answer_clear, dd_answer_file, dd_answer_look]
def fn2 : List He.DefD := [dd_answer_text, dd_answer_put, dd_answer_drop, dd_answer_told, dd_answer_least, dd_answer_curve, dd_answer_count, dd_answer_check, dd_answer_labels, dd_answer_accept, dd_answer_bound, dd_answer_price, dd_answer_with_code, dd_answer_without, dd_answer_range, dd_answer_ask, dd_answer_holes, dd_answer_mean, dd_answer_idle, dd_take_given, dd_answer_to, dd_answers, dd_Code_init, dd_Field_init, dd_Field_cost_in_all, dd_CardFile_init, dd_CardFile_become, dd_Refusal_init, dd_NotBytes_init, dd_NotInRange_init]
def fn3 : List He.DefD := [dd_NotAPlan_init, dd_NotLabels_init, dd_NotThere_init, dd_NeverAsked_init, dd_Fault_init, dd_Word_init, dd_Words_init, dd_Words_ended, dd_Words_ahead, dd_Words_where, dd_Words_move_on, dd_Handed_init, dd_Handed_ended, dd_Handed_take, dd_Handed_take_list]
def fn : List He.DefD := fn0 ++ (fn1 ++ (fn2 ++ (fn3)))
def fa0 : List He.Fa := [.free "len", .free "range", .free "min", .free "max", .free "sum", .free "all", .free "any", .free "zip", .free "enumerate", .free "reversed", .free "list", .free "ord", .free "str", .free "int", .free "abs", .free "Exception", .int "MOST_HOLES" 60, .int "MOST_FIELDS" 10, .int "MOST_CODES" 8, .int "MOST_ASKED" 1000, .int "MOST_COST" 1000000, .int "MOST_LETTERS" 12, .int "MOST_PRICE" 1000000000, .int "MOST_LABEL" 1000000000000, .str "LINE_END" "\n", .str "SIGNS" "\n 0123456789abcdefghijklmnopqrstuvwxyz", .str "OTHER_SIGN" "?", .cls "Code", .noat "Code" "name", .noat "Code" "holes"]
def fa1 : List He.Fa := [.noat "Code" "cost", .cls "Field", .noat "Field" "name", .noat "Field" "asked", .noat "Field" "codes", .cls "CardFile", .noat "CardFile" "holes", .noat "CardFile" "fields", .cls "Word", .noat "Word" "place", .noat "Word" "signs", .cls "Words", .noat "Words" "words", .noat "Words" "length", .noat "Words" "taken", .cls "Handed", .noat "Handed" "numbers", .noat "Handed" "taken", .glo "with_field", .glo "with_code", .glo "without_field", .glo "with_asked", .glo "with_only_code", .glo "table", .glo "last_row", .glo "row_ahead", .glo "costs_with", .glo "least_of", .glo "curve", .glo "least_cost"]
def fa2 : List He.Fa := [.glo "least_plan", .glo "least_plan_with", .glo "least_count", .glo "counts_ahead", .glo "count_with", .glo "is_plan", .glo "plan_holes", .glo "plan_cost", .glo "is_labels", .glo "label_rows", .glo "greatest_labels", .glo "first_wrong_label", .glo "bound", .glo "least_priced", .glo "best_price", .glo "signs_of", .glo "words_of", .glo "words_of_line", .glo "read_file", .glo "read_line", .glo "take_line", .glo "take_field", .glo "take_code", .glo "take_word", .glo "take_name", .glo "take_number", .glo "is_name", .glo "is_number", .glo "costs_beside", .glo "askings"]
def fa3 : List He.Fa := [.glo "least_asked", .glo "greatest_asked", .glo "idle_codes", .glo "is_idle", .glo "outdoes", .glo "text_of", .glo "field_line", .glo "code_line", .glo "refuse_wrong_bytes", .glo "refuse_out_of_range", .glo "refuse_wrong_field", .glo "refuse_wrong_code", .glo "plan_told", .glo "costs_told", .glo "greatest_divisor", .glo "answer_clear", .glo "answer_file", .glo "answer_look", .glo "answer_text", .glo "answer_put", .glo "answer_drop", .glo "answer_told", .glo "answer_least", .glo "answer_curve", .glo "answer_count", .glo "answer_check", .glo "answer_labels", .glo "answer_accept", .glo "answer_bound", .glo "answer_price"]
def fa4 : List He.Fa := [.glo "answer_with_code", .glo "answer_without", .glo "answer_range", .glo "answer_ask", .glo "answer_holes", .glo "answer_mean", .glo "answer_idle", .glo "take_given", .glo "answer_to", .glo "answers", .mkr "Code", .glo "Code", .mkr "Field", .glo "Field", .mkr "CardFile", .glo "CardFile", .mkr "Word", .glo "Word", .mkr "Words", .glo "Words", .mkr "Handed", .glo "Handed", .meth "Field" "cost_in_all", .meth "CardFile" "become", .meth "Words" "ended", .meth "Words" "ahead", .meth "Words" "where", .meth "Words" "move_on", .meth "Handed" "ended", .meth "Handed" "take"]
def fa5 : List He.Fa := [.meth "Handed" "take_list", .glo "Refusal", .glo "NotBytes", .glo "NotInRange", .glo "NotAPlan", .glo "NotLabels", .glo "NotThere", .glo "NeverAsked", .glo "Fault", .noat "Fault" "place", .exm "Fault" "Fault" true, .glo "NUMBERS", .glo "LISTS", .glo "CALLS"]
def fa : List He.Fa := fa0 ++ (fa1 ++ (fa2 ++ (fa3 ++ (fa4 ++ (fa5)))))
def neqN : List (PySem.Str × PySem.Str) := [("Word", "Words"), ("Code", "Words"), ("Field", "Words"), ("Code", "CardFile"), ("Field", "CardFile"), ("Code", "Handed"), ("Field", "Handed"), ("CardFile", "Handed")]
def exB (K : PySem.W.Frag) : Bool := (errsN.all fun c => errB K c) && (clfB K "Refusal" "__init__" && ((tabB K (He.ga K "NUMBERS") (numsL.map fun z => (z.1, V.int z.2)) && (tabB K (He.ga K "LISTS") (lstsL.map fun z => (z.1, V.int z.2)) && tabB K (He.ga K "CALLS") (callL.map fun z => (z.1, V.ref (He.ga K z.2))))) &&
  neqN.all fun z => !decide (He.ga K z.1 = He.ga K z.2)))
section
variable {K : PySem.W.Frag}
theorem errs_at (h : exB K = true) (c : PySem.Str) (hc : c ∈ errsN) : errB K c = true := List.all_eq_true.mp (He.ba h).1 c hc
theorem exB_clf (h : exB K = true) : clfB K "Refusal" "__init__" = true := (He.ba (He.ba h).2).1
theorem exB_tab (h : exB K = true) : tabB K (He.ga K "NUMBERS") (numsL.map fun z => (z.1, V.int z.2)) = true ∧ tabB K (He.ga K "LISTS") (lstsL.map fun z => (z.1, V.int z.2)) = true ∧ tabB K (He.ga K "CALLS") (callL.map fun z => (z.1, V.ref (He.ga K z.2))) = true := by
  obtain ⟨h1, h2⟩ := He.ba (He.ba (He.ba (He.ba h).2).2).1
  exact ⟨h1, He.ba h2⟩
theorem exB_ne (h : exB K = true) (x y : PySem.Str) (hq : (x, y) ∈ neqN) : He.ga K x ≠ He.ga K y := by
  have := List.all_eq_true.mp (He.ba (He.ba (He.ba h).2).2).2 (x, y) hq
  simpa using this
theorem iTab_nums (h : tabB K (He.ga K "NUMBERS") (numsL.map fun z => (z.1, V.int z.2)) = true) : ITab K (He.ga K "NUMBERS") (iTabV numsL) := tabB_ok h fun k => (look_map V.int k numsL).symm
theorem iTab_lsts (h : tabB K (He.ga K "LISTS") (lstsL.map fun z => (z.1, V.int z.2)) = true) : ITab K (He.ga K "LISTS") (iTabV lstsL) := tabB_ok h fun k => (look_map V.int k lstsL).symm
theorem iTab_calls (h : tabB K (He.ga K "CALLS") (callL.map fun z => (z.1, V.ref (He.ga K z.2))) = true) : ITab K (He.ga K "CALLS") (fTabV K callL) := tabB_ok h fun k => (look_map (fun x => V.ref (He.ga K x)) k callL).symm
end

theorem txt_of {K : PySem.W.Frag} {h : Heap} {mg : PySem.Str → Option Value} (X : K.In h) (G : h.Ns mainGlobals mg) (c : He.SaysD fa fn K) (e : exB K = true) : Txt K mg where
  f_len := He.free_ok X G (c.fact 0 (f := .free "len") rfl)
  f_range := He.free_ok X G (c.fact 1 (f := .free "range") rfl)
  f_min := He.free_ok X G (c.fact 2 (f := .free "min") rfl)
  f_max := He.free_ok X G (c.fact 3 (f := .free "max") rfl)
  f_sum := He.free_ok X G (c.fact 4 (f := .free "sum") rfl)
  f_all := He.free_ok X G (c.fact 5 (f := .free "all") rfl)
  f_any := He.free_ok X G (c.fact 6 (f := .free "any") rfl)
  f_zip := He.free_ok X G (c.fact 7 (f := .free "zip") rfl)
  f_enumerate := He.free_ok X G (c.fact 8 (f := .free "enumerate") rfl)
  f_reversed := He.free_ok X G (c.fact 9 (f := .free "reversed") rfl)
  f_list := He.free_ok X G (c.fact 10 (f := .free "list") rfl)
  f_ord := He.free_ok X G (c.fact 11 (f := .free "ord") rfl)
  f_str := He.free_ok X G (c.fact 12 (f := .free "str") rfl)
  f_int := He.free_ok X G (c.fact 13 (f := .free "int") rfl)
  f_abs := He.free_ok X G (c.fact 14 (f := .free "abs") rfl)
  f_Exception := He.free_ok X G (c.fact 15 (f := .free "Exception") rfl)
  c_MOST_HOLES := cint (He.int_ok X G (c.fact 16 (f := .int "MOST_HOLES" 60) rfl))
  c_MOST_FIELDS := cint (He.int_ok X G (c.fact 17 (f := .int "MOST_FIELDS" 10) rfl))
  c_MOST_CODES := cint (He.int_ok X G (c.fact 18 (f := .int "MOST_CODES" 8) rfl))
  c_MOST_ASKED := cint (He.int_ok X G (c.fact 19 (f := .int "MOST_ASKED" 1000) rfl))
  c_MOST_COST := cint (He.int_ok X G (c.fact 20 (f := .int "MOST_COST" 1000000) rfl))
  c_MOST_LETTERS := cint (He.int_ok X G (c.fact 21 (f := .int "MOST_LETTERS" 12) rfl))
  c_MOST_PRICE := cint (He.int_ok X G (c.fact 22 (f := .int "MOST_PRICE" 1000000000) rfl))
  c_MOST_LABEL := cint (He.int_ok X G (c.fact 23 (f := .int "MOST_LABEL" 1000000000000) rfl))
  c_LINE_END := cstr (He.str_ok X G (c.fact 24 (f := .str "LINE_END" "\n") rfl))
  c_SIGNS := cstr (He.str_ok X G (c.fact 25 (f := .str "SIGNS" "\n 0123456789abcdefghijklmnopqrstuvwxyz") rfl))
  c_OTHER_SIGN := cstr (He.str_ok X G (c.fact 26 (f := .str "OTHER_SIGN" "?") rfl))
  a_Code_name := ⟨He.cls_ok (c.fact 27 (f := .cls "Code") rfl), He.noat_ok (c.fact 28 (f := .noat "Code" "name") rfl)⟩
  a_Code_holes := ⟨He.cls_ok (c.fact 27 (f := .cls "Code") rfl), He.noat_ok (c.fact 29 (f := .noat "Code" "holes") rfl)⟩
  a_Code_cost := ⟨He.cls_ok (c.fact 27 (f := .cls "Code") rfl), He.noat_ok (c.fact 30 (f := .noat "Code" "cost") rfl)⟩
  a_Field_name := ⟨He.cls_ok (c.fact 31 (f := .cls "Field") rfl), He.noat_ok (c.fact 32 (f := .noat "Field" "name") rfl)⟩
  a_Field_asked := ⟨He.cls_ok (c.fact 31 (f := .cls "Field") rfl), He.noat_ok (c.fact 33 (f := .noat "Field" "asked") rfl)⟩
  a_Field_codes := ⟨He.cls_ok (c.fact 31 (f := .cls "Field") rfl), He.noat_ok (c.fact 34 (f := .noat "Field" "codes") rfl)⟩
  a_CardFile_holes := ⟨He.cls_ok (c.fact 35 (f := .cls "CardFile") rfl), He.noat_ok (c.fact 36 (f := .noat "CardFile" "holes") rfl)⟩
  a_CardFile_fields := ⟨He.cls_ok (c.fact 35 (f := .cls "CardFile") rfl), He.noat_ok (c.fact 37 (f := .noat "CardFile" "fields") rfl)⟩
  a_Word_place := ⟨He.cls_ok (c.fact 38 (f := .cls "Word") rfl), He.noat_ok (c.fact 39 (f := .noat "Word" "place") rfl)⟩
  a_Word_signs := ⟨He.cls_ok (c.fact 38 (f := .cls "Word") rfl), He.noat_ok (c.fact 40 (f := .noat "Word" "signs") rfl)⟩
  a_Words_words := ⟨He.cls_ok (c.fact 41 (f := .cls "Words") rfl), He.noat_ok (c.fact 42 (f := .noat "Words" "words") rfl)⟩
  a_Words_length := ⟨He.cls_ok (c.fact 41 (f := .cls "Words") rfl), He.noat_ok (c.fact 43 (f := .noat "Words" "length") rfl)⟩
  a_Words_taken := ⟨He.cls_ok (c.fact 41 (f := .cls "Words") rfl), He.noat_ok (c.fact 44 (f := .noat "Words" "taken") rfl)⟩
  a_Handed_numbers := ⟨He.cls_ok (c.fact 45 (f := .cls "Handed") rfl), He.noat_ok (c.fact 46 (f := .noat "Handed" "numbers") rfl)⟩
  a_Handed_taken := ⟨He.cls_ok (c.fact 45 (f := .cls "Handed") rfl), He.noat_ok (c.fact 47 (f := .noat "Handed" "taken") rfl)⟩
  d_with_field := ⟨c.def_ 0 (d := dd_with_field) rfl, He.glo_ok X G (c.fact 48 (f := .glo "with_field") rfl)⟩
  d_with_code := ⟨c.def_ 1 (d := dd_with_code) rfl, He.glo_ok X G (c.fact 49 (f := .glo "with_code") rfl)⟩
  d_without_field := ⟨c.def_ 2 (d := dd_without_field) rfl, He.glo_ok X G (c.fact 50 (f := .glo "without_field") rfl)⟩
  d_with_asked := ⟨c.def_ 3 (d := dd_with_asked) rfl, He.glo_ok X G (c.fact 51 (f := .glo "with_asked") rfl)⟩
  d_with_only_code := ⟨c.def_ 4 (d := dd_with_only_code) rfl, He.glo_ok X G (c.fact 52 (f := .glo "with_only_code") rfl)⟩
  d_table := ⟨c.def_ 5 (d := dd_table) rfl, He.glo_ok X G (c.fact 53 (f := .glo "table") rfl)⟩
  d_last_row := ⟨c.def_ 6 (d := dd_last_row) rfl, He.glo_ok X G (c.fact 54 (f := .glo "last_row") rfl)⟩
  d_row_ahead := ⟨c.def_ 7 (d := dd_row_ahead) rfl, He.glo_ok X G (c.fact 55 (f := .glo "row_ahead") rfl)⟩
  d_costs_with := ⟨c.def_ 8 (d := dd_costs_with) rfl, He.glo_ok X G (c.fact 56 (f := .glo "costs_with") rfl)⟩
  d_least_of := ⟨c.def_ 9 (d := dd_least_of) rfl, He.glo_ok X G (c.fact 57 (f := .glo "least_of") rfl)⟩
  d_curve := ⟨c.def_ 10 (d := dd_curve) rfl, He.glo_ok X G (c.fact 58 (f := .glo "curve") rfl)⟩
  d_least_cost := ⟨c.def_ 11 (d := dd_least_cost) rfl, He.glo_ok X G (c.fact 59 (f := .glo "least_cost") rfl)⟩
  d_least_plan := ⟨c.def_ 12 (d := dd_least_plan) rfl, He.glo_ok X G (c.fact 60 (f := .glo "least_plan") rfl)⟩
  d_least_plan_with := ⟨c.def_ 13 (d := dd_least_plan_with) rfl, He.glo_ok X G (c.fact 61 (f := .glo "least_plan_with") rfl)⟩
  d_least_count := ⟨c.def_ 14 (d := dd_least_count) rfl, He.glo_ok X G (c.fact 62 (f := .glo "least_count") rfl)⟩
  d_counts_ahead := ⟨c.def_ 15 (d := dd_counts_ahead) rfl, He.glo_ok X G (c.fact 63 (f := .glo "counts_ahead") rfl)⟩
  d_count_with := ⟨c.def_ 16 (d := dd_count_with) rfl, He.glo_ok X G (c.fact 64 (f := .glo "count_with") rfl)⟩
  d_is_plan := ⟨c.def_ 17 (d := dd_is_plan) rfl, He.glo_ok X G (c.fact 65 (f := .glo "is_plan") rfl)⟩
  d_plan_holes := ⟨c.def_ 18 (d := dd_plan_holes) rfl, He.glo_ok X G (c.fact 66 (f := .glo "plan_holes") rfl)⟩
  d_plan_cost := ⟨c.def_ 19 (d := dd_plan_cost) rfl, He.glo_ok X G (c.fact 67 (f := .glo "plan_cost") rfl)⟩
  d_is_labels := ⟨c.def_ 20 (d := dd_is_labels) rfl, He.glo_ok X G (c.fact 68 (f := .glo "is_labels") rfl)⟩
  d_label_rows := ⟨c.def_ 21 (d := dd_label_rows) rfl, He.glo_ok X G (c.fact 69 (f := .glo "label_rows") rfl)⟩
  d_greatest_labels := ⟨c.def_ 22 (d := dd_greatest_labels) rfl, He.glo_ok X G (c.fact 70 (f := .glo "greatest_labels") rfl)⟩
  d_first_wrong_label := ⟨c.def_ 23 (d := dd_first_wrong_label) rfl, He.glo_ok X G (c.fact 71 (f := .glo "first_wrong_label") rfl)⟩
  d_bound := ⟨c.def_ 24 (d := dd_bound) rfl, He.glo_ok X G (c.fact 72 (f := .glo "bound") rfl)⟩
  d_least_priced := ⟨c.def_ 25 (d := dd_least_priced) rfl, He.glo_ok X G (c.fact 73 (f := .glo "least_priced") rfl)⟩
  d_best_price := ⟨c.def_ 26 (d := dd_best_price) rfl, He.glo_ok X G (c.fact 74 (f := .glo "best_price") rfl)⟩
  d_signs_of := ⟨c.def_ 27 (d := dd_signs_of) rfl, He.glo_ok X G (c.fact 75 (f := .glo "signs_of") rfl)⟩
  d_words_of := ⟨c.def_ 28 (d := dd_words_of) rfl, He.glo_ok X G (c.fact 76 (f := .glo "words_of") rfl)⟩
  d_words_of_line := ⟨c.def_ 29 (d := dd_words_of_line) rfl, He.glo_ok X G (c.fact 77 (f := .glo "words_of_line") rfl)⟩
  d_read_file := ⟨c.def_ 30 (d := dd_read_file) rfl, He.glo_ok X G (c.fact 78 (f := .glo "read_file") rfl)⟩
  d_read_line := ⟨c.def_ 31 (d := dd_read_line) rfl, He.glo_ok X G (c.fact 79 (f := .glo "read_line") rfl)⟩
  d_take_line := ⟨c.def_ 32 (d := dd_take_line) rfl, He.glo_ok X G (c.fact 80 (f := .glo "take_line") rfl)⟩
  d_take_field := ⟨c.def_ 33 (d := dd_take_field) rfl, He.glo_ok X G (c.fact 81 (f := .glo "take_field") rfl)⟩
  d_take_code := ⟨c.def_ 34 (d := dd_take_code) rfl, He.glo_ok X G (c.fact 82 (f := .glo "take_code") rfl)⟩
  d_take_word := ⟨c.def_ 35 (d := dd_take_word) rfl, He.glo_ok X G (c.fact 83 (f := .glo "take_word") rfl)⟩
  d_take_name := ⟨c.def_ 36 (d := dd_take_name) rfl, He.glo_ok X G (c.fact 84 (f := .glo "take_name") rfl)⟩
  d_take_number := ⟨c.def_ 37 (d := dd_take_number) rfl, He.glo_ok X G (c.fact 85 (f := .glo "take_number") rfl)⟩
  d_is_name := ⟨c.def_ 38 (d := dd_is_name) rfl, He.glo_ok X G (c.fact 86 (f := .glo "is_name") rfl)⟩
  d_is_number := ⟨c.def_ 39 (d := dd_is_number) rfl, He.glo_ok X G (c.fact 87 (f := .glo "is_number") rfl)⟩
  d_costs_beside := ⟨c.def_ 40 (d := dd_costs_beside) rfl, He.glo_ok X G (c.fact 88 (f := .glo "costs_beside") rfl)⟩
  d_askings := ⟨c.def_ 41 (d := dd_askings) rfl, He.glo_ok X G (c.fact 89 (f := .glo "askings") rfl)⟩
  d_least_asked := ⟨c.def_ 42 (d := dd_least_asked) rfl, He.glo_ok X G (c.fact 90 (f := .glo "least_asked") rfl)⟩
  d_greatest_asked := ⟨c.def_ 43 (d := dd_greatest_asked) rfl, He.glo_ok X G (c.fact 91 (f := .glo "greatest_asked") rfl)⟩
  d_idle_codes := ⟨c.def_ 44 (d := dd_idle_codes) rfl, He.glo_ok X G (c.fact 92 (f := .glo "idle_codes") rfl)⟩
  d_is_idle := ⟨c.def_ 45 (d := dd_is_idle) rfl, He.glo_ok X G (c.fact 93 (f := .glo "is_idle") rfl)⟩
  d_outdoes := ⟨c.def_ 46 (d := dd_outdoes) rfl, He.glo_ok X G (c.fact 94 (f := .glo "outdoes") rfl)⟩
  d_text_of := ⟨c.def_ 47 (d := dd_text_of) rfl, He.glo_ok X G (c.fact 95 (f := .glo "text_of") rfl)⟩
  d_field_line := ⟨c.def_ 48 (d := dd_field_line) rfl, He.glo_ok X G (c.fact 96 (f := .glo "field_line") rfl)⟩
  d_code_line := ⟨c.def_ 49 (d := dd_code_line) rfl, He.glo_ok X G (c.fact 97 (f := .glo "code_line") rfl)⟩
  d_refuse_wrong_bytes := ⟨c.def_ 50 (d := dd_refuse_wrong_bytes) rfl, He.glo_ok X G (c.fact 98 (f := .glo "refuse_wrong_bytes") rfl)⟩
  d_refuse_out_of_range := ⟨c.def_ 51 (d := dd_refuse_out_of_range) rfl, He.glo_ok X G (c.fact 99 (f := .glo "refuse_out_of_range") rfl)⟩
  d_refuse_wrong_field := ⟨c.def_ 52 (d := dd_refuse_wrong_field) rfl, He.glo_ok X G (c.fact 100 (f := .glo "refuse_wrong_field") rfl)⟩
  d_refuse_wrong_code := ⟨c.def_ 53 (d := dd_refuse_wrong_code) rfl, He.glo_ok X G (c.fact 101 (f := .glo "refuse_wrong_code") rfl)⟩
  d_plan_told := ⟨c.def_ 54 (d := dd_plan_told) rfl, He.glo_ok X G (c.fact 102 (f := .glo "plan_told") rfl)⟩
  d_costs_told := ⟨c.def_ 55 (d := dd_costs_told) rfl, He.glo_ok X G (c.fact 103 (f := .glo "costs_told") rfl)⟩
  d_greatest_divisor := ⟨c.def_ 56 (d := dd_greatest_divisor) rfl, He.glo_ok X G (c.fact 104 (f := .glo "greatest_divisor") rfl)⟩
  d_answer_clear := ⟨c.def_ 57 (d := dd_answer_clear) rfl, He.glo_ok X G (c.fact 105 (f := .glo "answer_clear") rfl)⟩
  d_answer_file := ⟨c.def_ 58 (d := dd_answer_file) rfl, He.glo_ok X G (c.fact 106 (f := .glo "answer_file") rfl)⟩
  d_answer_look := ⟨c.def_ 59 (d := dd_answer_look) rfl, He.glo_ok X G (c.fact 107 (f := .glo "answer_look") rfl)⟩
  d_answer_text := ⟨c.def_ 60 (d := dd_answer_text) rfl, He.glo_ok X G (c.fact 108 (f := .glo "answer_text") rfl)⟩
  d_answer_put := ⟨c.def_ 61 (d := dd_answer_put) rfl, He.glo_ok X G (c.fact 109 (f := .glo "answer_put") rfl)⟩
  d_answer_drop := ⟨c.def_ 62 (d := dd_answer_drop) rfl, He.glo_ok X G (c.fact 110 (f := .glo "answer_drop") rfl)⟩
  d_answer_told := ⟨c.def_ 63 (d := dd_answer_told) rfl, He.glo_ok X G (c.fact 111 (f := .glo "answer_told") rfl)⟩
  d_answer_least := ⟨c.def_ 64 (d := dd_answer_least) rfl, He.glo_ok X G (c.fact 112 (f := .glo "answer_least") rfl)⟩
  d_answer_curve := ⟨c.def_ 65 (d := dd_answer_curve) rfl, He.glo_ok X G (c.fact 113 (f := .glo "answer_curve") rfl)⟩
  d_answer_count := ⟨c.def_ 66 (d := dd_answer_count) rfl, He.glo_ok X G (c.fact 114 (f := .glo "answer_count") rfl)⟩
  d_answer_check := ⟨c.def_ 67 (d := dd_answer_check) rfl, He.glo_ok X G (c.fact 115 (f := .glo "answer_check") rfl)⟩
  d_answer_labels := ⟨c.def_ 68 (d := dd_answer_labels) rfl, He.glo_ok X G (c.fact 116 (f := .glo "answer_labels") rfl)⟩
  d_answer_accept := ⟨c.def_ 69 (d := dd_answer_accept) rfl, He.glo_ok X G (c.fact 117 (f := .glo "answer_accept") rfl)⟩
  d_answer_bound := ⟨c.def_ 70 (d := dd_answer_bound) rfl, He.glo_ok X G (c.fact 118 (f := .glo "answer_bound") rfl)⟩
  d_answer_price := ⟨c.def_ 71 (d := dd_answer_price) rfl, He.glo_ok X G (c.fact 119 (f := .glo "answer_price") rfl)⟩
  d_answer_with_code := ⟨c.def_ 72 (d := dd_answer_with_code) rfl, He.glo_ok X G (c.fact 120 (f := .glo "answer_with_code") rfl)⟩
  d_answer_without := ⟨c.def_ 73 (d := dd_answer_without) rfl, He.glo_ok X G (c.fact 121 (f := .glo "answer_without") rfl)⟩
  d_answer_range := ⟨c.def_ 74 (d := dd_answer_range) rfl, He.glo_ok X G (c.fact 122 (f := .glo "answer_range") rfl)⟩
  d_answer_ask := ⟨c.def_ 75 (d := dd_answer_ask) rfl, He.glo_ok X G (c.fact 123 (f := .glo "answer_ask") rfl)⟩
  d_answer_holes := ⟨c.def_ 76 (d := dd_answer_holes) rfl, He.glo_ok X G (c.fact 124 (f := .glo "answer_holes") rfl)⟩
  d_answer_mean := ⟨c.def_ 77 (d := dd_answer_mean) rfl, He.glo_ok X G (c.fact 125 (f := .glo "answer_mean") rfl)⟩
  d_answer_idle := ⟨c.def_ 78 (d := dd_answer_idle) rfl, He.glo_ok X G (c.fact 126 (f := .glo "answer_idle") rfl)⟩
  d_take_given := ⟨c.def_ 79 (d := dd_take_given) rfl, He.glo_ok X G (c.fact 127 (f := .glo "take_given") rfl)⟩
  d_answer_to := ⟨c.def_ 80 (d := dd_answer_to) rfl, He.glo_ok X G (c.fact 128 (f := .glo "answer_to") rfl)⟩
  d_answers := ⟨c.def_ 81 (d := dd_answers) rfl, He.glo_ok X G (c.fact 129 (f := .glo "answers") rfl)⟩
  k_Code := ⟨He.cls_ok (c.fact 27 (f := .cls "Code") rfl), He.mkr_ok (c.fact 130 (f := .mkr "Code") rfl), He.glo_ok X G (c.fact 131 (f := .glo "Code") rfl)⟩
  i_Code := c.def_ 82 (d := dd_Code_init) rfl
  k_Field := ⟨He.cls_ok (c.fact 31 (f := .cls "Field") rfl), He.mkr_ok (c.fact 132 (f := .mkr "Field") rfl), He.glo_ok X G (c.fact 133 (f := .glo "Field") rfl)⟩
  i_Field := c.def_ 83 (d := dd_Field_init) rfl
  k_CardFile := ⟨He.cls_ok (c.fact 35 (f := .cls "CardFile") rfl), He.mkr_ok (c.fact 134 (f := .mkr "CardFile") rfl), He.glo_ok X G (c.fact 135 (f := .glo "CardFile") rfl)⟩
  i_CardFile := c.def_ 85 (d := dd_CardFile_init) rfl
  k_Word := ⟨He.cls_ok (c.fact 38 (f := .cls "Word") rfl), He.mkr_ok (c.fact 136 (f := .mkr "Word") rfl), He.glo_ok X G (c.fact 137 (f := .glo "Word") rfl)⟩
  i_Word := c.def_ 95 (d := dd_Word_init) rfl
  k_Words := ⟨He.cls_ok (c.fact 41 (f := .cls "Words") rfl), He.mkr_ok (c.fact 138 (f := .mkr "Words") rfl), He.glo_ok X G (c.fact 139 (f := .glo "Words") rfl)⟩
  i_Words := c.def_ 96 (d := dd_Words_init) rfl
  k_Handed := ⟨He.cls_ok (c.fact 45 (f := .cls "Handed") rfl), He.mkr_ok (c.fact 140 (f := .mkr "Handed") rfl), He.glo_ok X G (c.fact 141 (f := .glo "Handed") rfl)⟩
  i_Handed := c.def_ 101 (d := dd_Handed_init) rfl
  h_Field_cost_in_all := ⟨c.def_ 84 (d := dd_Field_cost_in_all) rfl, He.meth_ok (c.fact 142 (f := .meth "Field" "cost_in_all") rfl)⟩
  h_CardFile_become := ⟨c.def_ 86 (d := dd_CardFile_become) rfl, He.meth_ok (c.fact 143 (f := .meth "CardFile" "become") rfl)⟩
  h_Words_ended := ⟨c.def_ 97 (d := dd_Words_ended) rfl, He.meth_ok (c.fact 144 (f := .meth "Words" "ended") rfl)⟩
  h_Words_ahead := ⟨c.def_ 98 (d := dd_Words_ahead) rfl, He.meth_ok (c.fact 145 (f := .meth "Words" "ahead") rfl)⟩
  h_Words_where := ⟨c.def_ 99 (d := dd_Words_where) rfl, He.meth_ok (c.fact 146 (f := .meth "Words" "where") rfl)⟩
  h_Words_move_on := ⟨c.def_ 100 (d := dd_Words_move_on) rfl, He.meth_ok (c.fact 147 (f := .meth "Words" "move_on") rfl)⟩
  h_Handed_ended := ⟨c.def_ 102 (d := dd_Handed_ended) rfl, He.meth_ok (c.fact 148 (f := .meth "Handed" "ended") rfl)⟩
  h_Handed_take := ⟨c.def_ 103 (d := dd_Handed_take) rfl, He.meth_ok (c.fact 149 (f := .meth "Handed" "take") rfl)⟩
  h_Handed_take_list := ⟨c.def_ 104 (d := dd_Handed_take_list) rfl, He.meth_ok (c.fact 150 (f := .meth "Handed" "take_list") rfl)⟩
  e_Refusal := ⟨errF_ok (errs_at e "Refusal" (by simp [errsN])), He.glo_ok X G (c.fact 151 (f := .glo "Refusal") rfl)⟩
  i_Refusal := c.def_ 87 (d := dd_Refusal_init) rfl
  e_NotBytes := ⟨errF_ok (errs_at e "NotBytes" (by simp [errsN])), He.glo_ok X G (c.fact 152 (f := .glo "NotBytes") rfl)⟩
  i_NotBytes := c.def_ 88 (d := dd_NotBytes_init) rfl
  e_NotInRange := ⟨errF_ok (errs_at e "NotInRange" (by simp [errsN])), He.glo_ok X G (c.fact 153 (f := .glo "NotInRange") rfl)⟩
  i_NotInRange := c.def_ 89 (d := dd_NotInRange_init) rfl
  e_NotAPlan := ⟨errF_ok (errs_at e "NotAPlan" (by simp [errsN])), He.glo_ok X G (c.fact 154 (f := .glo "NotAPlan") rfl)⟩
  i_NotAPlan := c.def_ 90 (d := dd_NotAPlan_init) rfl
  e_NotLabels := ⟨errF_ok (errs_at e "NotLabels" (by simp [errsN])), He.glo_ok X G (c.fact 155 (f := .glo "NotLabels") rfl)⟩
  i_NotLabels := c.def_ 91 (d := dd_NotLabels_init) rfl
  e_NotThere := ⟨errF_ok (errs_at e "NotThere" (by simp [errsN])), He.glo_ok X G (c.fact 156 (f := .glo "NotThere") rfl)⟩
  i_NotThere := c.def_ 92 (d := dd_NotThere_init) rfl
  e_NeverAsked := ⟨errF_ok (errs_at e "NeverAsked" (by simp [errsN])), He.glo_ok X G (c.fact 157 (f := .glo "NeverAsked") rfl)⟩
  i_NeverAsked := c.def_ 93 (d := dd_NeverAsked_init) rfl
  e_Fault := ⟨errF_ok (errs_at e "Fault" (by simp [errsN])), He.glo_ok X G (c.fact 158 (f := .glo "Fault") rfl)⟩
  i_Fault := c.def_ 94 (d := dd_Fault_init) rfl
  n_place := He.noat_ok (c.fact 159 (f := .noat "Fault" "place") rfl)
  b_Refusal := clfB_ok (exB_clf e)
  v_exc := excI
  m_FF := He.exm_ok (c.fact 160 (f := .exm "Fault" "Fault" true) rfl)
  t_NUMBERS := ⟨He.glo_ok X G (c.fact 161 (f := .glo "NUMBERS") rfl), iTab_nums (exB_tab e).1⟩
  t_LISTS := ⟨He.glo_ok X G (c.fact 162 (f := .glo "LISTS") rfl), iTab_lsts (exB_tab e).2.1⟩
  t_CALLS := ⟨He.glo_ok X G (c.fact 163 (f := .glo "CALLS") rfl), iTab_calls (exB_tab e).2.2⟩
  q_Word_Words := exB_ne e "Word" "Words" (by simp [neqN])
  q_Code_Words := exB_ne e "Code" "Words" (by simp [neqN])
  q_Field_Words := exB_ne e "Field" "Words" (by simp [neqN])
  q_Code_CardFile := exB_ne e "Code" "CardFile" (by simp [neqN])
  q_Field_CardFile := exB_ne e "Field" "CardFile" (by simp [neqN])
  q_Code_Handed := exB_ne e "Code" "Handed" (by simp [neqN])
  q_Field_Handed := exB_ne e "Field" "Handed" (by simp [neqN])
  q_CardFile_Handed := exB_ne e "CardFile" "Handed" (by simp [neqN])
end Nt

set_option maxHeartbeats 0
namespace Nt
open PySem PySem.Spec PyProof.Rows L2 Evl
/-! ### the top, run by the kernel -/
abbrev RS : PySem.W.OpenSpec := PySem.Challenge.rw_notchplan_s01_answers
abbrev qv : Program := PySem.W.view RS.prog [118]
def lo0 : List PySem.Str := ["MOST_HOLES", "MOST_FIELDS", "MOST_CODES", "MOST_ASKED", "MOST_COST", "MOST_LETTERS", "MOST_PRICE", "MOST_LABEL", "Code", "Field", "CardFile", "with_field", "with_code", "without_field", "with_asked", "with_only_code"]
def lo1 : List PySem.Str := ["table", "last_row", "row_ahead", "costs_with", "least_of", "curve", "least_cost", "least_plan", "least_plan_with", "least_count", "counts_ahead", "count_with", "is_plan", "plan_holes", "plan_cost", "is_labels"]
def lo2 : List PySem.Str := ["label_rows", "greatest_labels", "first_wrong_label", "bound", "least_priced", "best_price", "Refusal", "NotBytes", "NotInRange", "NotAPlan", "NotLabels", "NotThere", "NeverAsked", "Fault", "LINE_END", "SIGNS"]
def lo3 : List PySem.Str := ["OTHER_SIGN", "Word", "Words", "signs_of", "words_of", "words_of_line", "read_file", "read_line", "take_line", "take_field", "take_code", "take_word", "take_name", "take_number", "is_name", "is_number"]
def lo4 : List PySem.Str := ["costs_beside", "askings", "least_asked", "greatest_asked", "idle_codes", "is_idle", "outdoes", "text_of", "field_line", "code_line", "Handed", "refuse_wrong_bytes", "refuse_out_of_range", "refuse_wrong_field", "refuse_wrong_code", "plan_told"]
def lo5 : List PySem.Str := ["costs_told", "greatest_divisor", "answer_clear", "answer_file", "answer_look", "answer_text", "answer_put", "answer_drop", "answer_told", "answer_least", "answer_curve", "answer_count", "answer_check", "answer_labels", "answer_accept", "answer_bound"]
def lo6 : List PySem.Str := ["answer_price", "answer_with_code", "answer_without", "answer_range", "answer_ask", "answer_holes", "answer_mean", "answer_idle", "CALLS", "NUMBERS", "LISTS", "take_given", "answer_to"]
def loose : List PySem.Str := lo0 ++ (lo1 ++ (lo2 ++ (lo3 ++ (lo4 ++ (lo5 ++ (lo6))))))
def as0 : List Addr := [2, 3, 27, 28, 30, 31, 48, 49, 55, 56, 58, 59, 76, 77, 83, 84, 86, 87, 97, 98, 104, 105, 111, 112, 118, 119, 125, 126, 132, 133, 139, 140, 144, 145, 151, 152, 156, 157, 163, 164, 170, 171, 177, 178, 184, 185, 191, 192, 196, 197, 203, 204, 208, 209, 213, 214, 218, 219, 223, 224, 228, 229, 233, 234, 240, 241, 245, 246, 250, 251, 257, 258, 271, 272, 274, 275, 291, 292, 294, 295, 310]
def as1 : List Addr := [311, 313, 314, 329, 330, 332, 333, 348, 349, 351, 352, 367, 368, 370, 371, 386, 387, 389, 390, 405, 406, 408, 409, 424, 425, 427, 428, 445, 446, 452, 453, 459, 460, 466, 467, 473, 474, 476, 477, 485, 486, 492, 493, 499, 500, 506, 507, 513, 514, 520, 521, 525, 526, 530, 531, 537, 538, 544, 545, 551, 552, 558, 559, 565, 566, 572, 573, 579, 580, 586, 587, 593, 594, 598, 599, 603, 604, 610, 611, 615, 616]
def as2 : List Addr := [622, 623, 629, 630, 643, 644, 650, 651, 657, 658, 664, 665, 667, 668, 676, 677, 683, 684, 690, 691, 697, 698, 704, 705, 709, 710, 716, 717, 723, 724, 730, 731, 737, 738, 744, 745, 751, 752, 758, 759, 765, 766, 772, 773, 779, 780, 786, 787, 793, 794, 800, 801, 807, 808, 814, 815, 821, 822, 828, 829, 835, 836, 842, 843, 849, 850, 856, 857, 861, 862, 868, 869, 870, 872, 873, 877, 878, 884, 885, 891, 892]
/-- where what is looked at stands -/
def asN : List Addr := as0 ++ (as1 ++ (as2))
abbrev AlN : Type := He.AlD × Bool
def obsN (g : Addr → Option Obj) : AlN := (He.obsD fa fn (He.frG g asN), exB (He.frG g asN))
def valN : AlN := (He.valD fn, true)
def hkN : PySem.W.Hook where
  α := AlN
  obs := fun s => obsN s.heap.get?
  val := fun _ => valN
  says := fun _ h => ∃ K : PySem.W.Frag, K.In h ∧ (He.SaysD fa fn K ∧ exB K = true)
  of := fun _ _ e => ⟨_, He.frG_in, congrArg (fun z : AlN => z.1) e, congrArg (fun z : AlN => z.2) e⟩
  keeps := fun _ _ _ found on => let ⟨K, kin, told⟩ := found; ⟨K, kin.keeps on, told⟩
def obN (s : PySem.W.SharedT) : AlN := obsN (HandSHeadRun.getT s)
theorem obN_eq (s : PySem.W.SharedT) : obN s = hkN.obs s.abs := by
  have e : HandSHeadRun.getT s = s.abs.heap.get? := funext fun a => HandSHeadRun.getT_eq s a
  show obsN _ = obsN _
  rw [e]
noncomputable section
abbrev stepN (w : World) : PySem.W.SharedT → Thread → Option (PySem.W.SharedT × Thread) := HandSHeadRun.stepQ (HandSHeadRun.denQ HandSHeadRun.tabQ) RS.prog w
abbrev endN (w : World) (os : OsState) : Option PySem.W.SharedT := HandSHeadRun.endF (stepN w) 6900 RS.prog w os
abbrev rowN : String := "special-get-raises"
end
end Nt

set_option maxHeartbeats 4000000
namespace Nt
open PySem PySem.Spec PyProof.Rows L2 Evl
/-! ### the end -/
/-- a namespace tells one thing of a name -/
theorem ns_one {h : Heap} {a : Addr} {m m2 : PySem.Str → Option Value} (h1 : h.Ns a m) (h2 : h.Ns a m2) : m2 = m := by
  obtain ⟨o, es, ep, g1, d1, _, f1⟩ := h1
  obtain ⟨o2, es2, ep2, g2, d2, _, f2⟩ := h2
  cases g1.symm.trans g2
  cases d1.symm.trans d2
  exact funext fun x => (f2 x).symm.trans (f1 x)
/-- the library's walk_spec, at the one world and heap that are looked at: the written part and the promise may be found only there -/
theorem walk_found {r : PySem.W.OpenSpec} {k : Nat} {q : Program} {loose : List PySem.Str} {XP : (PySem.Str → Option Value) → Heap → Prop} {YP : World → Heap → Prop} {d : DefRec} {ps : List PySem.Str}
    (said : r.wellSaid = true) (plain : d.params.defaults = []) (len : r.args.length = ps.length) (room : Room k callerA)
    (F : ∀ (w : World) (mg : PySem.Str → Option Value) (fa : Addr) (h : Heap), YP w h → h.Ns mainGlobals mg → mg d.name = some (.ref fa) →
      ∃ (K : PySem.W.Frag) (fd : FuncData) (sp : Sp), K.In h ∧ (∀ (s : Shared) (us : List Value), us.length = ps.length → BindsTo s fd ⟨us, []⟩ (ps.zip us)) ∧
        (∀ base : Heap, K.In base → base.Ns mainGlobals mg → FnOk r.prog w K mg base C8.CX0 k fa fd ps sp) ∧
        ∀ (H : Hp) (xs : List V) (a : PySem.W.Codec.denoteAll r.args), OnlyF H → PySem.W.Codec.withinAll r.args a = true → PySem.W.Codec.app r.args r.asked a = true → DwAll K H xs (PySem.W.Codec.encAll r.args a) →
          sp xs H (fun v H' => Dw K H' v (r.ret.enc (PySem.W.Codec.app r.args r.f a))) fun _ _ _ => False) :
    PySem.W.WalkOS q loose XP YP r d [] (fun f vs => PySem.call f vs) := fun w s₀ s₁ mg mb G Y fa o pm cd doc dV kV ho hd hcd hD hmg => by
  obtain ⟨K, fd, sp, kin, binds, fn, keeps⟩ := F w mg fa _ Y G.T.g hmg
  refine walk_spec (YP := fun w2 h2 => w2 = w ∧ h2 = s₁.heap) (K := fun _ => K) (CX := fun _ => C8.CX0) (sp := fun _ => sp) said plain len room (fun _ _ z => z.2 ▸ kin) (fun w2 mg2 fa2 h2 z _ ns named => ?_)
    (fun _ H xs a o1 win ask hx => keeps H xs a o1 win ask hx) (fun _ _ _ _ _ z => z) w s₀ s₁ mg mb G ⟨rfl, rfl⟩ fa o pm cd doc dV kV ho hd hcd hD hmg
  cases z.1
  cases z.2
  cases ns_one G.T.g ns
  cases hmg.symm.trans named
  exact ⟨fd, binds, fn⟩
theorem answers_fn {P : Program} {w : World} {K : PySem.W.Frag} {mg : PySem.Str → Option Value} {base : Heap} {fd : FuncData} (T : Txt K mg) (F : FnP K "answers" "answers" none s_answers fd) : FnOk P w K mg base C8.CX0 11 (He.ga K "answers") fd ["calls"] (answers.sp K) := by
  refine F.ok answers.sc answers.len fun cdv A outer s H vs Q E hr hs => ?_
  obtain ⟨t, h1, h2⟩ := answers.body (P := P) (w := w) (base := base) T cdv A outer s H vs Q E hr hs
  exact ⟨t, h1.nox, h2⟩
theorem answers_said {K : PySem.W.Frag} {H : Hp} {xs : List V} (a : PySem.W.Codec.denoteAll RS.args) (win : PySem.W.Codec.withinAll RS.args a = true) (ask : PySem.W.Codec.app RS.args RS.asked a = true) (hx : DwAll K H xs (PySem.W.Codec.encAll RS.args a)) :
    answers.sp K xs H (fun v H' => Dw K H' v (RS.ret.enc (PySem.W.Codec.app RS.args RS.f a))) fun _ _ _ => False := by
  cases hx with
  | cons h1 h2 =>
    cases h2
    cases h1 with
    | lst hs ha =>
      have e := ints_dw a.1 _ ha
      subst e
      have hask : PyVbenaj.answers_asked a.1 = true := ask
      obtain ⟨cls, hl, hok, hol, hans⟩ := asked_inv hask
      have hlen : (a.1 : List Int).length ≤ 16000 := by
        have h1 := (Bool.and_eq_true_iff.mp (show (PySem.W.Codec.inList 0 16000 _ a.1 && _) = true from win)).1
        unfold PySem.W.Codec.inList PySem.W.Codec.inLen PySem.W.Codec.inNat at h1
        simp at h1
        omega
      refine ⟨_, cls, rfl, by rw [← hl]; exact hs, by rw [← hl]; omega, hok, fun f cl hf => step_ok f cl hf, hol, fun p H' _ hp => ?_⟩
      have e2 : RS.ret.enc (PySem.W.Codec.app RS.args RS.f a) = RS.ret.enc (outs Vbenaj.start cls) := congrArg (fun l : List Int => RS.ret.enc l) hans
      rw [e2]
      exact .lst (SqL.of hp) (dw_ints _)
end Nt

set_option maxHeartbeats 0
namespace Nt
open PySem PySem.Spec PyProof.Rows L2 Evl
theorem runH_f (w : World) : ∀ os : OsState, (endN (w.withFollow rowN false) os).map obN = some valN := by
  intro os
  kernel_rfl
end Nt

set_option maxHeartbeats 0
namespace Nt
open PySem PySem.Spec PyProof.Rows L2 Evl
theorem runH_t (w : World) : ∀ os : OsState, (endN (w.withFollow rowN true) os).map obN = some valN := by
  intro os
  kernel_rfl
end Nt

set_option maxHeartbeats 0
namespace Nt
open PySem PySem.W PySem.Calls PyProof.Rows
theorem runL_f (w : World) : ∀ os : OsState, (endN (w.withFollow rowN false) os).map (fun s => HandSHeadRun.looksF RS.prog (boot_heap (w.withFollow rowN false).params) s.abs) = some true := by
  intro os
  kernel_rfl
end Nt

set_option maxHeartbeats 0
namespace Nt
open PySem PySem.W PySem.Calls PyProof.Rows
theorem runL_t (w : World) : ∀ os : OsState, (endN (w.withFollow rowN true) os).map (fun s => HandSHeadRun.looksF RS.prog (boot_heap (w.withFollow rowN true).params) s.abs) = some true := by
  intro os
  kernel_rfl
end Nt

set_option maxHeartbeats 0
namespace Nt
open PySem PySem.Spec PyProof.Rows L2 Evl
theorem runS_f (w : World) : ∀ os : OsState, (endN (w.withFollow rowN false) os).map (fun s => HandSHeadRun.seenQ qv loose (importedModules RS.prog.main.body) (fun s => PySem.W.xlAt qv [] s && PySem.W.recOk [] s) s.abs) = some (PySem.W.openGood qv loose) := by
  intro os
  kernel_rfl
end Nt

set_option maxHeartbeats 0
namespace Nt
open PySem PySem.Spec PyProof.Rows L2 Evl
theorem runS_t (w : World) : ∀ os : OsState, (endN (w.withFollow rowN true) os).map (fun s => HandSHeadRun.seenQ qv loose (importedModules RS.prog.main.body) (fun s => PySem.W.xlAt qv [] s && PySem.W.recOk [] s) s.abs) = some (PySem.W.openGood qv loose) := by
  intro os
  kernel_rfl
end Nt

set_option maxHeartbeats 0
namespace Nt
open PySem PySem.W PySem.Calls PyProof.Rows
theorem map3 {α β γ δ : Type} {x : Option α} {f : α → β} {g : α → γ} {h : α → δ} {a : β} {b : γ} {c : δ} (e1 : x.map f = some a) (e2 : x.map g = some b) (e3 : x.map h = some c) : x.map (fun s => (f s, g s, h s)) = some (a, b, c) := by
  cases x with
  | none => cases e1
  | some s =>
    cases e1
    cases e2
    cases e3
    rfl
theorem runN (w : World) : HandSHeadRun.RunEqS RS qv hkN obN 6900 loose w :=
  byRow2 rowN (P := fun w => HandSHeadRun.RunEqS RS qv hkN obN 6900 loose w) (fun w os => map3 (runL_f w os) (runS_f w os) (runH_f w os)) (fun w os => map3 (runL_t w os) (runS_t w os) (runH_t w os)) w
end Nt
open PySem PySem.W PySem.Calls PyProof.Rows
set_option maxRecDepth 100000 in
set_option maxHeartbeats 0 in
theorem PySem.Challenge.cw_notchplan_s01_answers_holds : PySem.Challenge.rw_notchplan_s01_answers.Holds := by
  have said : PySem.Challenge.rw_notchplan_s01_answers.wellSaid = true := by decide +kernel
  refine HandSHeadRun.head_spec (r := PySem.Challenge.rw_notchplan_s01_answers) (q := Nt.qv) (H := Nt.hkN) (ob := Nt.obN) (M := 6900) (loose := Nt.loose) (d := HandSHeadRun.topDef Nt.RS.prog 118) (kwd := []) Nt.obN_eq
    (by kernel_rfl) (fun s => by kernel_rfl) Nt.runN (by kernel_rfl) (by kernel_rfl) (by kernel_rfl) os_shapes said (by decide +kernel) ⟨rfl, rfl, rfl, rfl, rfl, by decide +kernel⟩ ⟨[.list [.int 6]], by decide +kernel, by decide +kernel⟩ ?_
  refine Nt.walk_found (k := 11) (ps := ["calls"]) said (by kernel_rfl) rfl ⟨rfl, by decide, by decide⟩ fun w mg fa h Y G hmg => ?_
  obtain ⟨K, X, c, e⟩ := Y
  have T : Nt.Txt K mg := Nt.txt_of X G c e
  obtain ⟨fd, F⟩ := T.d_answers.1
  have hn : (HandSHeadRun.topDef Nt.RS.prog 118).name = ("answers" : PySem.Str) := by kernel_rfl
  rw [hn, T.d_answers.2] at hmg
  cases hmg
  exact ⟨K, fd, Nt.answers.sp K, X, L2.FunD.bindsA (ps := ["calls"]) F fun _ _ _ _ _ _ us hl => match us, hl with | [_], _ => rfl,
    fun base _ _ => Nt.answers_fn T F, fun H xs a hO win ask hx => Nt.answers_said a win ask hx⟩
#print axioms PySem.Challenge.cw_notchplan_s01_answers_holds
