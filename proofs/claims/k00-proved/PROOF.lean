import PyProof.Rows.All
import Wide.All
import OpenK.AllK
import Wide.FinOn
import PyProof.EqAt
import PyProof.EqKinds
import PyProof.TupleCall
import HandS.ForMost
import HandS.Exc
import HandS.ExcOwn
import HandS.WordsExc
import HandS.ExcInit
import HandS.ExcIs
import HandS.ExcField
import HandS.ExcValue
import HandS.IsInst
import HandS.ClsMeth
import HandS.Defaults
import HandS.HotCalls
import HandS.Conv
import HandS.Zip
import HandS.Iter
import HandS.More
import HandS.Flow
import PySem.Challenge.RW_mostlaid_k00_errors_by_themselves
import HandS.Codes
import HandS.Walk
import KE.KStateDown
import HandS.Head0
import HandS.Head1
import HandS.Head2
import HandS.HeadEnd
import HandS.HeadHook1
import HandS.HeadHook2
set_option Elab.async false
set_option linter.all false
set_option maxRecDepth 100000
set_option maxHeartbeats 0
/-! Rules for errors of the program: made as values, by position and by name; their fields; isinstance; raised -/
namespace PySem
namespace KoX
open Builtin Builtin.ObjectAttr HandSPX
section
variable {M : Model} {A : Around} {E : Value → Shared → Prop} {hh : Heap} {gs : Array GenState} {dn : Drawn} {tn : Nat} {os : OsState}
variable {nm qn : Str} {C N : Addr} {bs bm bB : List Value} {hd : Bool} {sn : List Str} {sub : List Value} {ab : Bool} {col : Option Bool} {dd : Option Addr}
variable {k0 k1 k2 k3 k5 : Option Value} {B nid iid : String}
theorem chk_new (F : ExcBaseFacts B nid iid bB) (hT : ∀ Y : String, bm.contains (.type Y) = bB.contains (.type Y)) {args : List Value} {kw : List (Str × Value)}
    {Q : Unit → Shared → Prop} (hC : hh.get? C = some (excClassObj nm qn C N bs bm hd sn sub ab col dd k0 k1 k2 k3 k5 nid)) (hq : Q () ⟨hh, gs, dn, tn, os⟩) :
    wpAny M A (checkBuiltinCall nid ⟨.ref C :: args, kw⟩) Q E ⟨hh, gs, dn, tn, os⟩ := by
  have inB : (Value.ref C :: bm).contains (.type B) = true := by
    rw [List.contains_cons, hT, F.hasB, Bool.or_true]
  have star := F.noStar
  simp only [checkBuiltinCall, F.newSplit, F.newKind, F.newRow]
  repeat (first
    | refine wpAny_loadPart_at hC ?_
    | (refine wpAny_isSubtype_exc hC ?_; rw [inB])
    | refine wpAny_staticBase_exc hC ?_
    | refine wpAny_madeBy_exc hC ?_
    | simp only [bne_self_eq_false, Bool.false_eq_true, if_false]
    | wp_step)
  exact hq
end
section
variable {prog : Program} {w : World} {A : Around} {E : Value → Shared → Prop} {R : Result → Shared → Prop} {hh : Heap} {gs : Array GenState} {dn : Drawn} {tn : Nat} {os : OsState}
variable {nm qn : Str} {C N : Addr} {bs bm bB : List Value} {hd : Bool} {sn : List Str} {sub : List Value} {ab : Bool} {col : Option Bool} {dd : Option Addr}
variable {k0 k1 k2 k3 k5 : Option Value} {B nid iid : String}
theorem mk_new (F : ExcBaseFacts B nid iid bB) (hT : ∀ Y : String, bm.contains (.type Y) = bB.contains (.type Y)) {args : List Value} {kw : List (Str × Value)}
    (hC : hh.get? C = some (excClassObj nm qn C N bs bm hd sn sub ab col dd k0 k1 k2 k3 k5 nid))
    (hq : R (.ok (.ret (.ref (hh.objs.size + 1)))) ⟨(hh.push (W.kdv_tup args)).push (excO C hh.objs.size), gs, dn, tn, os⟩) (ha : args.length ≤ sizeLine) :
    codeAny (model prog w) A (.builtin nid ⟨.ref C :: args, kw⟩) R ⟨hh, gs, dn, tn, os⟩ := by
  have en := F.ends
  have inB : (Value.ref C :: bm).contains (.type B) = true := by
    rw [List.contains_cons, hT, F.hasB, Bool.or_true]
  have outA : (Value.ref C :: bm).contains (.type "AttributeError") = false := by
    rw [List.contains_cons, hT, F.noAttr]
    rfl
  have outN : (Value.ref C :: bm).contains (.type "NameError") = false := by
    rw [List.contains_cons, hT, F.noName]
    rfl
  refine codeAny_builtinAt F.entry (show wpAt _ _ _ (Builtin.«BaseException.__new__» _) _ _ _ from ?_)
  delta Builtin.«BaseException.__new__»
  refine wpAt_bind (show wpAt _ _ _ (stack >>= _) _ _ _ from wpAt_bind (wpAt_stack fun _ _ => wpAt_of_wpAny ?_))
  wp_walk
  refine wpAt_of_wpAny ?_
  rw [F.owner]
  repeat (first
    | with_reducible refine wpAny_madeHere_exc F.canon hC ?_
    | with_reducible refine wpAny_loadPart_at hC ?_
    | (with_reducible refine wpAny_isSubtype_exc hC ?_; first | rw [inB] | rw [outA] | rw [outN])
    | wp_step)
  show R _ _
  rw [Heap.size_push]
  exact hq
theorem mk_type (F : ExcBaseFacts B nid iid bB) (hT : ∀ Y : String, bm.contains (.type Y) = bB.contains (.type Y)) {args : List Value} {kw : List (Str × Value)} {fI : Addr}
    {Q : Fin → Shared → Prop} (hC : hh.get? C = some (excClassObj nm qn C N bs bm hd sn sub ab col dd k0 k1 k2 k3 k5 nid))
    (hi : W.Looks (model prog w) hh (typeLookup (.ref C) "__init__") (some (.ref fI))) (hb : ∀ self, W.Looks (model prog w) hh (bindSpecial (.ref fI) self) (.ref fI, [self]))
    (ha : args.length ≤ sizeLine)
    (hq : codeAny (model prog w) A (.call (.ref fI) ⟨.ref (hh.objs.size + 1) :: args, kw⟩)
      (fun r s' => match r with
        | .ok (.ret v) => v = .none ∧ Q (.done (.ret (.ref (hh.objs.size + 1)))) s'
        | .ok _ => False
        | .error e => E e s')
      ⟨(hh.push (W.kdv_tup args)).push (excO C hh.objs.size), gs, dn, tn, os⟩) :
    wpAny (model prog w) A (Builtin.«type.__call__» ⟨.ref C :: args, kw⟩) Q E ⟨hh, gs, dn, tn, os⟩ := by
  repeat (first
    | with_reducible refine wpAny_loadPart_at hC ?_
    | with_reducible refine wpAny_madeBy_exc hC ?_
    | wp_step)
  refine codeAny_call_builtin_code (Code.quiet_builtin _ F.quiet) (chk_new F hT hC ?_)
  refine mk_new F hT hC ?_ ha
  show wpAny _ _ _ _ _ _
  have kp : ∀ b o, hh.get? b = some o → ((hh.push (W.kdv_tup args)).push (excO C hh.objs.size)).get? b = some o := fun b o e =>
    Heap.get?_push_of_some _ (Heap.get?_push_of_some _ e)
  have hC2 := kp _ _ hC
  have at1 : ((hh.push (W.kdv_tup args)).push (excO C hh.objs.size)).get? (hh.objs.size + 1) = some (excO C hh.objs.size) := by
    heap_get
  have inC : (Value.ref C :: bm).contains (.ref C) = true := by
    simp
  have i1 := hi.keeps kp
  have b1 := (hb (.ref (hh.objs.size + 1))).keeps kp
  unfold isInstance
  repeat (first
    | with_reducible refine wpAny_loadPart_at at1 ?_
    | (with_reducible refine wpAny_isSubtype_exc hC2 ?_; rw [inC])
    | wp_step)
  refine (show wpAny _ _ (typeLookup (.ref C) _) _ _ _ from i1.at (wpAny_holding (wpAny_bind (b1.at (wpAny_bind (wpAny_call (codeAny_mono hq fun r s' z => ?_)))))))
  rcases r with e | (v | _ | _ | _)
  all_goals first | exact z | exact z.elim | skip
  obtain ⟨rfl, z⟩ := z
  first
    | (refine wpAny_pure (wpAny_pure ?_); exact z)
    | (wp_walk; exact z)
/-- the class of an error is called: its own __init__ runs upon the new object -/
theorem call_err (F : ExcBaseFacts B nid iid bB) (hT : ∀ Y : String, bm.contains (.type Y) = bB.contains (.type Y)) {args : List Value} {kw : List (Str × Value)} {fI : Addr}
    (hC : hh.get? C = some (excClassObj nm qn C N bs bm hd sn sub ab col dd k0 k1 k2 k3 k5 nid))
    (hi : W.Looks (model prog w) hh (typeLookup (.ref C) "__init__") (some (.ref fI))) (hb : ∀ self, W.Looks (model prog w) hh (bindSpecial (.ref fI) self) (.ref fI, [self]))
    (ha : args.length ≤ sizeLine)
    (hq : codeAny (model prog w) (A.under (.builtin "type.__call__" ⟨.ref C :: args, kw⟩)) (.call (.ref fI) ⟨.ref (hh.objs.size + 1) :: args, kw⟩) (W.InitBack (hh.objs.size + 1) R)
      ⟨(hh.push (W.kdv_tup args)).push (excO C hh.objs.size), gs, dn, tn, os⟩) :
    codeAny (model prog w) A (.call (.ref C) ⟨args, kw⟩) R ⟨hh, gs, dn, tn, os⟩ := by
  have f1 := tc_lookup
  have f2 := tc_bind (.ref C)
  have isT : (⟨hh, gs, dn, tn, os⟩ : Shared).TypeIs (.ref C) "type" := ⟨_, hC, rfl⟩
  refine codeAny_of_tree ?_
  show wpAny (model prog w) _ (callAny (.ref C) _) _ _ _
  repeat (any_goals (first
    | assumption
    | with_reducible refine wpAny_loadPart_at hC ?_
    | wp_step))
  refine ⟨rfl, ?_⟩
  refine codeAny_call_builtin_at (Code.quiet_builtin _ (by decide +kernel)) entry_typeCall (wpAny_check_type_call_sub hC (mk_type F hT hC hi hb ha ?_))
  refine codeAny_mono hq fun res st z => ?_
  rcases res with e | (v | _ | _ | _)
  all_goals exact z
end
end KoX
end PySem

namespace Ko
open PySem L2 PySem.Spec PyProof.Rows
abbrev Si := L2.St
/-- an error at a: its class, its fields (the newest first) -/
def Err (H : Hp) (a C : Addr) (fs : List (Str × V)) : Prop := (fs = [] ∧ H a = some (exo a C none)) ∨ ∃ d, d ≠ a ∧ H a = some (exo a C (some d)) ∧ H d = some (exd d fs)
theorem Err.same {H H' : Hp} {a C : Addr} {fs : List (Str × V)} (e : Err H a C fs) (s : Same H H') : Err H' a C fs := by
  rcases e with ⟨e, q⟩ | ⟨d, ne, q, r⟩
  · exact .inl ⟨e, s _ _ q⟩
  · exact .inr ⟨d, ne, s _ _ q, s _ _ r⟩
section
variable {X : Cx} {CX : CXT} {k n : Nat} {f C : Addr} {fd : FuncData} {ps ks : List Str} {sp : Sp} {x : Str} {p pos : Pos} {e : Expr} {es : List Expr} {kws : List Keyword}
variable {t tk : TA} {g : List Value → List Value → List Value} {gV : List V → List V → List V}
/-- what is asked of the class at C and its __init__ at f -/
structure Mkr (K : PySem.W.Frag) (C f : Addr) : Prop where
  cl : OexC K C
  ini : PySem.W.findIn K (.ref C) "__init__" = some (some (.ref f))
  fn : PySem.W.typeIn K (.ref f) = some (.type "function")
/-- C(.., k = v, ..) of an error's class, as a value -/
def tErr (C : Addr) (n m : Nat) (sp : Sp) (gV : List V → List V → List V) (t tk : TA) : TE := fun σ H Q => t σ H fun vs H1 => tk σ H1 fun zs H2 => vs.length = n ∧ zs.length = m ∧ n ≤ 1000 ∧
  ∀ a, H2 a = none → sp (gV (.ref a :: vs) zs) (upd H2 a (exo a C none)) (fun v H3 => v = .non ∧ Q (.ref a) H3) E0
theorem run_err {pins : List (Addr × Obj)} {σ : Si} {H : Hp} {s : Shared} {Q : VK} {us ws : List Value} {vs zs : List V} (M : Mkr X.K C f) (Fk : FnOk X.prog X.w X.K X.mg X.base CX0 k f fd ps sp)
    (hr : Room (k + 1) X.A) (hb : KBn X.K fd ps (n + 1) ks g gV) (I : Inv X pins σ H s) (r : Vals vs us) (rz : Vals zs ws) (l1 : vs.length = n) (l2 : zs.length = ks.length) (ln : n ≤ 1000)
    (h : ∀ a, H a = none → sp (gV (.ref a :: vs) zs) (upd H a (exo a C none)) (fun v H2 => v = .non ∧ Q (.ref a) H2) E0) :
    wpAny (model X.prog X.w) X.A (call (Value.ref C) us (ks.zip ws)) (EP X pins σ Q) X.xe s := by
  obtain ⟨nm, q, N, bs, bm, sn, sub, ab, col, dd, k0, k1, k2, k3, k5, hC, hbm⟩ := M.cl.cls
  obtain ⟨hp, g0, dr, tk, os⟩ := s
  have sz : hp.objs.size ≤ hp.objs.size + 1 := Nat.le_succ _
  have free : H (hp.objs.size + 1) = none := I.hok.fresh sz
  have kk : ∀ b o, hp.get? b = some o → ((hp.push (PySem.W.kdv_tup us)).push (PySem.HandSPX.excO C hp.objs.size)).get? b = some o := fun b o e =>
    Heap.get?_push_of_some _ (Heap.get?_push_of_some _ e)
  have at1 : ((hp.push (PySem.W.kdv_tup us)).push (PySem.HandSPX.excO C hp.objs.size)).get? (hp.objs.size + 1) = some (PySem.HandSPX.excO C hp.objs.size) := by
    heap_get
  have I2 : Inv X pins σ (upd H (hp.objs.size + 1) (exo (hp.objs.size + 1) C none)) ⟨(hp.push (PySem.W.kdv_tup us)).push (PySem.HandSPX.excO C hp.objs.size), g0, dr, tk, os⟩ :=
    I.laid (t' := tk) (o := exo (hp.objs.size + 1) C none) kk sz (exo_ok at1)
  have hq := h _ free
  have r2 := hb.rel (Paired.cons (show RelV (V.ref (hp.objs.size + 1)) (Value.ref (hp.objs.size + 1)) from rfl) r) rz
  have e1 : (Value.ref (hp.objs.size + 1) :: us).length = n + 1 := by
    rw [List.length_cons, ← Paired.length r, l1]
  have hz : us.length ≤ sizeLine := by
    rw [← r.length, sizeLine_eq]
    omega
  refine wpAny_call (PySem.KoX.call_err PySem.F.excBase_ValueError (fun Y => PySem.HandSPX.refsVE_contains Y bm hbm) (I.kIn _ _ hC) (PySem.W.looks_findIn I.kIn M.ini) (fun self => PySem.W.bind_fn I.kIn self M.fn) hz ?_)
  refine codeAny_mono (Fk.run _ X.stack _ _ ⟨Value.ref (hp.objs.size + 1) :: us, ks.zip ws⟩ (g (Value.ref (hp.objs.size + 1) :: us) ws) _ _ E0 (hr.make C us (ks.zip ws)) (I2.env0.make C us (ks.zip ws))
    (hb.to _ (Value.ref (hp.objs.size + 1) :: us) ws I2.kIn e1 (rz.length.symm.trans l2)) r2 hq) fun r s' hq' => ?_
  cases r with
  | error er => exact False.elim hq'
  | ok fl =>
    cases fl with
    | ret u =>
      obtain ⟨v, H4, I4, rv, ev, q4⟩ := I2.after hq'
      subst ev
      exact ⟨rv, V.ref (hp.objs.size + 1), H4, I4, rfl, q4⟩
    | next => exact (show False from hq').elim
    | brk => exact (show False from hq').elim
    | cont => exact (show False from hq').elim
theorem pe_errK (M : Mkr X.K C f) (Fk : FnOk X.prog X.w X.K X.mg X.base CX0 k f fd ps sp) (hr : Room (k + 1) X.A) (hg : Gl X x) (hm : X.mg x = some (.ref C)) (hb : KBn X.K fd ps (n + 1) ks g gV)
    (ha : PA X (e :: es) t) (hkw : PK X kws tk) (kwAll : (backToKw pos (keywordEach kws X.env)).all (·.1.isSome) = true := by rfl) (kwNms : (backToKw pos (keywordEach kws X.env)).filterMap (·.1) = ks := by rfl)
    (noDbg : (x == ("__debug__" : Str)) = false := by decide) (star1 : starEach (e :: es) X.env = (false, eval e X.env) :: starEach es X.env := by rfl)
    (plain : ((backTo pos (starEach (e :: es) X.env)).any (·.1) || (backToKw pos (keywordEach kws X.env)).any (·.1.isNone)) = false := by rfl) :
    PE X (.Call (.Name x p) (e :: es) kws pos) (tErr C n ks.length sp gV t tk) := by
  refine ⟨fun pins s σ H Q I h => wpAny_Call_Name_kw (ld_glob I hg hm ?_ noDbg)⟩
  refine PySem.W.callWith_KW (h₀ := X.base) I.ok.mod.kin M.cl.kC kwAll (thn (ha.run pos pins s σ H _ I h) fun us s1 hh => ?_) plain star1
  obtain ⟨vs, H1, I1, r, q⟩ := hh
  refine thn (hkw.run pos pins s1 σ H1 _ I1 q) fun ws s2 hh => ?_
  obtain ⟨zs, H2, I2, rz, l1, l2, ln, q2⟩ := hh
  refine ⟨I2.kIn, ?_⟩
  rw [kwNms]
  exact run_err M Fk hr hb I2 r rz l1 l2 ln q2
theorem pe_errK0 (M : Mkr X.K C f) (Fk : FnOk X.prog X.w X.K X.mg X.base CX0 k f fd ps sp) (hr : Room (k + 1) X.A) (hg : Gl X x) (hm : X.mg x = some (.ref C)) (hb : KBn X.K fd ps 1 ks g gV)
    (hkw : PK X kws tk) (kwAll : (backToKw pos (keywordEach kws X.env)).all (·.1.isSome) = true := by rfl) (kwNms : (backToKw pos (keywordEach kws X.env)).filterMap (·.1) = ks := by rfl)
    (noDbg : (x == ("__debug__" : Str)) = false := by decide)
    (plain : ((backTo pos (starEach [] X.env)).any (·.1) || (backToKw pos (keywordEach kws X.env)).any (·.1.isNone)) = false := by rfl) :
    PE X (.Call (.Name x p) [] kws pos) (tErr C 0 ks.length sp gV tNil tk) := by
  refine ⟨fun pins s σ H Q I h => wpAny_Call_Name_kw (ld_glob I hg hm ?_ noDbg)⟩
  refine PySem.W.callWith_KW0 (h₀ := X.base) I.ok.mod.kin M.cl.kC kwAll (thn (hkw.run pos pins s σ H _ I h) fun ws s2 hh => ?_) plain
  obtain ⟨zs, H2, I2, rz, l1, l2, ln, q2⟩ := hh
  refine ⟨I2.kIn, ?_⟩
  rw [kwNms]
  exact run_err (us := []) (vs := []) M Fk hr hb I2 .nil rz rfl l2 (Nat.zero_le _) q2
/-- C(e, ..) -/
theorem pe_errP (M : Mkr X.K C f) (Fk : FnOk X.prog X.w X.K X.mg X.base CX0 k f fd ps sp) (hr : Room (k + 1) X.A) (hg : Gl X x) (hm : X.mg x = some (.ref C)) (hb : KBn X.K fd ps (n + 1) [] g gV)
    (ha : PA X (e :: es) t) (noDbg : (x == ("__debug__" : Str)) = false := by decide) (star1 : starEach (e :: es) X.env = (false, eval e X.env) :: starEach es X.env := by rfl)
    (plain : (backTo pos (starEach es X.env)).any (·.1) = false := by rfl) :
    PE X (.Call (.Name x p) (e :: es) [] pos) (tErr C n 0 sp gV t tNil) := by
  refine ⟨fun pins s σ H Q I h => wpAny_Call_Name_kw (ld_glob I hg hm ?_ noDbg)⟩
  refine PySem.W.callWith_K (h₀ := X.base) I.ok.mod.kin M.cl.kC (thn (ha.run pos pins s σ H _ I h) fun us s1 hh => ?_) star1 plain
  obtain ⟨vs, H1, I1, r, l1, l2, ln, q⟩ := hh
  exact ⟨I1.kIn, run_err (ws := []) (zs := []) M Fk hr hb I1 r .nil l1 rfl ln q⟩
/-- C() -/
theorem pe_err0 (M : Mkr X.K C f) (Fk : FnOk X.prog X.w X.K X.mg X.base CX0 k f fd ps sp) (hr : Room (k + 1) X.A) (hg : Gl X x) (hm : X.mg x = some (.ref C)) (hb : KBn X.K fd ps 1 [] g gV)
    (noDbg : (x == ("__debug__" : Str)) = false := by decide) : PE X (.Call (.Name x p) [] [] pos) (tErr C 0 0 sp gV tNil tNil) := by
  refine ⟨fun pins s σ H Q I h => wpAny_Call_Name_kw (ld_glob I hg hm ?_ noDbg)⟩
  obtain ⟨l1, l2, ln, q⟩ := h
  exact PySem.W.callWith_K0 I.kIn M.cl.kC (run_err (us := []) (ws := []) (vs := []) (zs := []) M Fk hr hb I .nil .nil rfl rfl ln q)
/-- B.__init__(self, ..), B an own class that has the built-in __init__ -/
theorem pe_base {B : Addr} {mc : Value} {p1 p2 : Pos} {pl : Sem Bool} (hg : Gl X x) (hm : X.mg x = some (.ref B)) (r : ClX.CRead X.K B mc)
    (vB : PySem.W.findCls X.K (.ref B) mc "__init__" = some (.val (.builtin "ValueError.__init__"))) (ha : PA X (e :: es) t) (noDbg : (x == ("__debug__" : Str)) = false := by decide)
    (hc : eval (.Call (.Attribute (.Name x p1) "__init__" p2) (e :: es) [] pos) X.env = (do
      let ov ← eval (.Name x p1) X.env
      standAt p2.atName
      let (fn, self1) ← holding [ov] (getMethod ov "__init__" pl)
      callWith pos fn self1 (backTo pos (starEach (e :: es) X.env)) (backToKw pos (keywordEach [] X.env))) := by rfl)
    (star1 : starEach (e :: es) X.env = (false, eval e X.env) :: starEach es X.env := by rfl) (plain : (backTo pos (starEach es X.env)).any (·.1) = false := by rfl) :
    PE X (.Call (.Attribute (.Name x p1) "__init__" p2) (e :: es) [] pos) (tVeI X.K t) := by
  refine ⟨fun pins s σ H Q I h => PySem.W.methodCall_KW (ld_glob I hg hm ?_ noDbg) hc⟩
  refine PySem.W.method_cls I.kIn r.ga (PySem.W.cls_value I.kIn r.rd vB (by decide +kernel) ?_)
  show wpAny (model X.prog X.w) X.A (callWith pos (Value.builtin "ValueError.__init__") [] (backTo pos (starEach (e :: es) X.env)) []) _ _ _
  refine callWith_method1 (thn (ha.run pos pins _ σ H _ (I.tok _) h) fun us s1 hh => ?_) star1 plain
  obtain ⟨vs, H1, I1, r1, a, C, ws, ev, hl, T, ea, q⟩ := hh
  subst ev
  cases r1 with
  | @cons _ u0 _ ur ra rr =>
    obtain rfl : u0 = .ref a := ra
    refine oinit_ok T I1 ea ?_ fun s' J => ⟨.non, H1, J, rfl, q⟩
    rw [← Paired.length rr, sizeLine_eq]
    omega
end
end Ko

namespace PySem.KoX
open PySem PySem.W PySem.Calls PyProof.Rows PySem.Spec
section
variable {prog : Program} {w : World} {A : Around} {E : Value → Shared → Prop} {s : Shared} {K : Frag} {x D : Addr} {ox : Obj} {od : Option Obj}
theorem found_data {C : Addr} {name : Str} {a g : Value} (hc : (clsIn K C).isSome = true) (ha : findIn K (.ref C) name = some (some a)) (hg : specialIn K a "__get__" = some (some g))
    (ht : takesIn K a = some true) : findObj K C od name = some (.bind g a) := by
  obtain ⟨cd, e⟩ := Option.isSome_iff_exists.mp hc
  unfold findObj
  rw [e, Option.bind_some, ha, Option.bind_some]
  simp [hg, ht]
/-- e.__class__ of an error -/
theorem class_err {Q : Option Value → Shared → Prop} (T : L2.ExcC K D) (X : K.In s.heap) (I : InstAt s.heap x ox D od) (h : Q (some (.ref D)) { s with toks := s.toks + 1 }) :
    wpAny (model prog w) A (getAttr? (.ref x) "__class__") Q E s := by
  have hf : findObj K D od "__class__" = some (.bind (.builtin "getset_descriptor.__get__") (.builtin "object.__class__")) :=
    found_data (by obtain ⟨cd, hc, _⟩ := any_some T.hd; rw [hc]; rfl) T.ha T.hn T.ht
  obtain ⟨hp, g, d, t, os⟩ := s
  have T0 := I.type (M := model prog w)
  have T1 := looks_findIn (M := model prog w) X T.hg
  have T2 := looks_findIn (M := model prog w) X T.hk
  have T3 := looks_find (M := model prog w) X I hf
  have isE : Looks (model prog w) hp (isInstance (.ref x) (.type "BaseException")) true :=
    T0.andThen (looks_subIn X T.hs)
  have z0 : (false && onTheHeap (Value.builtin "BaseException.__getattribute__")) = false :=
    rfl
  have z2 : (Value.builtin "BaseException.__getattribute__" == Value.builtin "object.__getattribute__") = false :=
    by decide +kernel
  have z1 : (onTheHeap (Value.ref D) && Value.builtin "BaseException.__getattribute__" == Value.builtin "object.__getattribute__") = false := by
    rw [z2]
    rfl
  unfold getAttr?
  unfold getAttrBy? getAttrBy
  refine wpAny_bind (wpAny_mkText (wpAny_bind (wpAny_attempt (wpAny_holding (wpAny_bind (T0.at (wpAny_bind (T1.at ?_))))))))
  show wpAny (model prog w) _ (if (onTheHeap (Value.ref D) && Value.builtin "BaseException.__getattribute__" == Value.builtin "object.__getattribute__") = true then _ else _) _ _ _
  rw [z1, if_neg Bool.false_ne_true]
  unfold getAttrByItsOwn
  unfold hookBefore
  refine wpAny_bind ?_
  have onH : onTheHeap (Value.ref D) = true := rfl
  rw [if_pos onH]
  refine T2.at (wpAny_bind (wpAny_attempt (wpAny_holding ?_)))
  unfold callGetattribute
  rw [z0, if_neg Bool.false_ne_true]
  unfold boundAndCalled
  rw [PySem.F.excAttr_ValueError.ga.bind (Value.ref x)]
  refine wpAny_bind (wpAny_pure (show wpAny _ _ (call (.builtin "BaseException.__getattribute__") [.ref x, .str "__class__" t]) _ _ _ from
    wpAny_call (codeAny_call_builtin PySem.F.excAttr_ValueError.ga.plain PySem.F.entry_bexc_ga ?_)))
  refine @check_slot (model prog w) _ _ ⟨hp, g, d, t + 1, os⟩ "BaseException.__getattribute__" "BaseException" "__getattribute__" (.ref x) [.str "__class__" t] [] _ (by decide +kernel) (by decide +kernel)
    isE (PySem.F.args_bexc_ga (.ref x) (.str "__class__" t)) ?_
  delta Builtin.«object.__getattribute__»
  refine wpAny_bind (wpAny_of_eq (a := ((Value.ref x : Value), [Value.str "__class__" t])) (by
    first
      | rfl
      | (simp only [slotArgs]; rfl)) ?_)
  refine wpAny_bind (wpAny_pure (wpAny_bind (T0.at (wpAny_bind (T3.at ?_)))))
  show wpAny (model prog w) _ (holding [Value.builtin "object.__class__"] (call (.builtin "getset_descriptor.__get__") [.builtin "object.__class__", .ref x, .ref D]) >>= ret) _ _ _
  refine wpAny_bind (wpAny_holding (wpAny_call (class_get (s := ⟨hp, g, d, t + 1, os⟩) (ox := ox) (od := od) X I T.hm ?_)))
  refine wpAny_pure ?_
  show wpAny (model prog w) _ (handedOut (.ref D)) _ _ _
  rw [handedOut_of (rfl : handedIn (.ref D) = true)]
  first
    | (refine wpAny_pure (wpAny_pure ?_); exact h)
    | exact wpAny_pure h
    | (refine wpAny_pure (wpAny_bind (wpAny_pure (wpAny_pure ?_))); exact h)
theorem kit_err (T : L2.ExcC K D) : KitX K (.ref x) (.ref D) (fun h => InstAt h x ox D od) where
  ty := fun _ _ _ I => I.type
  it := fun _ _ X _ => by
    obtain ⟨cdD, hcD, _⟩ := any_some T.hd
    unfold clsIn at hcD
    split at hcD
    · rename_i c' d' cd' sl' ho
      intro A' Q' E' s' k q
      unfold isType loadHead
      refine wpAny_bind (wpAny_loadPart (k _ _ (X _ _ ho)) ?_)
      exact wpAny_pure q
    · cases hcD
  ne := fun hp tp _ _ _ _ X htp => by
    obtain ⟨cdD, hcD, _⟩ := any_some T.hd
    refine Bool.eq_false_iff.mpr fun same => ?_
    obtain rfl : D = tp := Value.ref.inj (beq_iff_eq.mp same)
    unfold clsIn at hcD
    split at hcD
    · rename_i c' d' cd' sl' ho
      have y := (X _ _ ho).symm.trans htp
      cases y
    · cases hcD
  ca := fun X I k => class_err T X I k
end
end PySem.KoX
namespace Ko
open PySem L2 PySem.Spec PyProof.Rows
section
variable {X : Cx} {pins : List (Addr × Obj)} {σ : Si} {H : Hp} {s : Shared}
/-- an error that is tracked, as the library reads it -/
theorem err_inst {a C : Addr} {fs : List (Str × V)} (hok : HOk X.prog X.w H s.heap) (e : Err H a C fs) : ∃ ox od, PySem.W.InstAt s.heap a ox C od := by
  rcases e with ⟨_, e⟩ | ⟨d, _, e, q⟩
  · obtain ⟨t1, ho⟩ := exo_at hok e
    exact ⟨_, none, ho, rfl, rfl, trivial⟩
  · obtain ⟨t1, ho⟩ := exo_at hok e
    obtain ⟨mA, ⟨od, es, ep, hd, _⟩, _⟩ := exd_at hok q
    exact ⟨_, some od, ho, rfl, rfl, hd⟩
end
/-- e.n of an error -/
def tEat (K : PySem.W.Frag) (n : Str) (te : TE) : TE := fun σ H Q => te σ H fun x H1 => ∃ (a C d : Addr) (fs : List (Str × V)) (v : V), x = .ref a ∧ H1 a = some (exo a C (some d)) ∧ H1 d = some (exd d fs) ∧
  XfC K C ∧ PySem.W.findIn K (.ref C) n = some none ∧ fs.lookup n = some v ∧ Q v H1
theorem pe_eat {X : Cx} {e : Expr} {te : TE} {pos : Pos} {n : Str} (he : PE X e te) (hb : attributeBase e n X.env (eval e X.env) = eval e X.env := by rfl) : PE X (.Attribute e n pos) (tEat X.K n te) := by
  refine ⟨fun pins s σ H Q I h => attr_of hb (thn (he.run pins s σ H _ I h) fun u s1 hh => ?_)⟩
  obtain ⟨x, H1, I1, rx, a, C, d, fs, v, ex, ea, ed, T, hno, l, q⟩ := hh
  subst ex
  obtain rfl : u = .ref a := rx
  obtain ⟨t1, ho⟩ := exo_at I1.hok ea
  obtain ⟨mA, hns, hr⟩ := exd_at I1.hok ed
  obtain ⟨od, hod, hl⟩ := lookIn_ns hns
  obtain ⟨y, hu, ru⟩ := RelO.some_of (v := v) (o := mA n) (by rw [← l]; exact hr n)
  have J : PySem.W.InstAt s1.heap a _ C (some od) := ⟨ho, rfl, rfl, hod⟩
  have own := PySem.W.findObj_own (od := od) T.hdC hno rfl (by rw [hl, hu])
  exact HandSPX.exc_get I1.kIn J T.ga T.gg T.exC own (handed_of ru) ⟨v, H1, I1.tok _, ru, q⟩
/-- isinstance(e, c) of an error -/
def rIsErr (K : PySem.W.Frag) : List V → Hp → VK → Prop := fun xs H Q => ∃ (a C : Addr) (fs : List (Str × V)) (c : V) (cv : Value) (b : Bool), xs = [.ref a, c] ∧ Err H a C fs ∧ ExcC K C ∧ ClsV c cv ∧ PySem.W.kitOne K (.ref C) cv = some b ∧ Q (.bl b) H
theorem call_isErr {X : Cx} : CallR X (.builtin "isinstance") (rIsErr X.K) := by
  intro pins s σ H args us Q I r h
  obtain ⟨a, C, fs, c, cv, b, rfl, e, T, k, kt, q⟩ := h
  obtain ⟨y1, y2, rfl, r1, r2⟩ := vals2 r
  cases (show y1 = .ref a from r1)
  have e2 := k.eq r2
  subst e2
  obtain ⟨ox, od, J⟩ := err_inst I.hok e
  exact PySem.W.kia_one (PySem.KoX.kit_err T) I.kIn J kt (fun z => nomatch z) fun tk => ⟨.bl b, H, I.tok tk, rfl, q⟩
/-- .. of an error that the suite holds: its object stands apart from what is tracked -/
def rIsPin (K : PySem.W.Frag) (p : Addr × Obj) : List V → Hp → VK → Prop := fun xs H Q => ∃ (C : Addr) (d : Option Addr) (c : V) (cv : Value) (b : Bool), xs = [.ref p.1, c] ∧ Zc (.ref C) d p.2 ∧ (∃ vs, p.2.data = .fields vs) ∧
  (∀ dx, d = some dx → ∃ fs, H dx = some (exd dx fs)) ∧ ExcC K C ∧ ClsV c cv ∧ PySem.W.kitOne K (.ref C) cv = some b ∧ Q (.bl b) H
theorem call_isPin {X : Cx} {p : Addr × Obj} (hp : p ∈ X.pn) : CallR X (.builtin "isinstance") (rIsPin X.K p) := by
  intro pins s σ H args us Q I r h
  obtain ⟨C, d, c, cv, b, rfl, hz, ⟨vs, hv⟩, hd, T, k, kt, q⟩ := h
  obtain ⟨y1, y2, rfl, r1, r2⟩ := vals2 r
  cases (show y1 = .ref p.1 from r1)
  have e2 := k.eq r2
  subst e2
  obtain ⟨hget, _⟩ := I.pin p (List.mem_append_left _ hp)
  have J : ∃ od, PySem.W.InstAt s.heap p.1 p.2 C od := by
    obtain ⟨pa, oc, od, oda, osl⟩ := p
    obtain ⟨h1, h2⟩ := hz
    dsimp only at h1 h2 hv hget
    subst h1 h2 hv
    cases od with
    | none => exact ⟨none, hget, rfl, rfl, trivial⟩
    | some dx =>
      obtain ⟨fs, ed⟩ := hd dx rfl
      obtain ⟨mA, ⟨o, es, ep, ho, _⟩, _⟩ := exd_at I.hok ed
      exact ⟨some o, hget, rfl, rfl, ho⟩
  obtain ⟨od, J⟩ := J
  exact PySem.W.kia_one (PySem.KoX.kit_err T) I.kIn J kt (fun z => nomatch z) fun tk => ⟨.bl b, H, I.tok tk, rfl, q⟩
/-- an error that was made here, raised -/
def tRs (H0 : Hp) (R : Value → Prop) (te : TE) : Si → Hp → XK → Prop := fun σ H Q => te σ H fun x H1 => ∃ (a C : Addr) (d : Option Addr), x = .ref a ∧ H1 a = some (exo a C d) ∧ Fr0 H0 a ∧ R (.ref C) ∧ Q (.ref C) d (delH H1 a)
theorem pmk_err {X : Cx} {e : Expr} {te : TE} (hx : X.ex = []) (he : PE X e te) : PMk X e (tRs X.H_0 (Raises X) te) := by
  intro pins s σ H Q I h
  refine wpAny_mono (he.run pins s σ H _ I h) (fun u s1 hu => ?_) fun _ _ z => z
  obtain ⟨v, H1, I1, r1, a, C, d, rfl, ha, h0, hr, q⟩ := hu
  cases r1
  obtain ⟨t1, ho⟩ := exo_at I1.hok ha
  obtain ⟨G, gs, ga, J⟩ := I1.untrack (show H1 a = some (.ext _) from ha) h0 hx
  exact ⟨a, _, _, { s1 with heap := G }, delH H1 a, .ref C, d, rfl, J, gs, ga, ho, ⟨rfl, rfl⟩, rfl, rfl, delH_same, rfl, I1.bare, hr, q⟩
end Ko

/-! A def called in an except suite: its promise may speak of the exception that is held -/
namespace Ko
open PySem L2 L2H PySem.Spec PyProof.Rows
abbrev Pin := Addr × Obj
structure FnP (P : Program) (w : World) (K : PySem.W.Frag) (mg : Str → Option Value) (base : Heap) (k : Nat) (f : Addr) (fd : FuncData) (ps : List Str) (sp : Pin → Sp) : Prop where
  len : ∀ p vs H Q E, sp p vs H Q E → vs.length = ps.length
  run : ∀ (A : Around) (outer : List Env) (s : Shared) (H : Hp) (args : Args) (us : List Value) (vs : List V) (Q : VK) (E : XK) (p : Pin), RoomH k A → PinOk outer H s p → Env0 P w K mg base A outer s H →
    BindsTo s fd args (ps.zip us) → Vals vs us → sp p vs H Q E → codeAny (model P w) A (.call (.ref f) args) (CR CX0 outer P w H s Q E) s
theorem fnP_of {P : Program} {w : World} {K : PySem.W.Frag} {mg : Str → Option Value} {base : Heap} {k : Nat} {f : Addr} {x qual : Str} {st : Stmt} {fd : FuncData} {N ps : List Str} {sp : Pin → Sp} (F : Fun K x qual st f fd)
    (S : FnScope N ps (defScope st)) (len : ∀ p vs H Q E, sp p vs H Q E → vs.length = ps.length)
    (body : ∀ (cdv : Value) (A : Around) (outer : List Env) (s : Shared) (H : Hp) (vs : List V) (Q : VK) (E : XK) (p : Pin), RoomH k (A.deeper (envOfC qual (defScope st) s.heap.objs.size f cdv)) → sp p vs H Q E →
      ∃ t, PSs (cxH CX0 P w K mg base N qual (defScope st) f cdv A outer s H E p).nox (defBody st) t ∧ t { nx := fun _ H' => Q .non H', rt := Q } (L2.start N vs) H) : FnP P w K mg base (k + 1) f fd ps sp := by
  obtain ⟨oc, od, kV, doc, pm, an, cdv, ct, osl, rfl, lk, hcode⟩ := F.ex
  refine ⟨len, fun A outer s H args us vs Q E p room pin e0 hb r h => ?_⟩
  have hl := len _ _ _ _ _ h
  have kin : K.In s.heap := e0.mod.kin.keeps fun b o e => (e0.bs b o e).1
  have nolim : s.heap.NoLimit := e0.mod.nolimit.keeps fun b o e => (e0.bs b o e).1
  have kinds : ∀ y ∈ ps.zip us, (defScope st).names.lookup y.1 = some .local ∨ ((defScope st).names.lookup y.1 = some .cell ∧ ((cellsFrom (s.heap.objs.size + 1) (defScope st).names []).lookup y.1).isSome = true) := by
    rintro ⟨n, v⟩ hy
    rcases S.par n (List.of_mem_zip hy).1 with loc | cel
    · exact .inl loc
    · exact .inr ⟨cel, PySem.W.cellsFrom_some _ _ _ (.inl cel)⟩
  refine codeAny_call_function room.depth (kin _ _ lk) rfl S.co S.gen rfl (PySem.W.codeRec_of kin hcode) (hb _ _ _ _ (wpAny_newFunctionEnv_cells S.kind kinds fun env he s1 x => ?_))
  subst he
  refine ⟨nolim.keeps x.toInCall.keep, codeAny_func ?_⟩
  obtain ⟨t, ht, q⟩ := body cdv A outer s H vs Q E p (room.deeper _) h
  have I : Inv (cxH CX0 P w K mg base N qual (defScope st) f cdv A outer s H E p) [] (L2.start N vs) H s1 := inv_startH S pin e0 hl r x
  refine wpAny_mono (ht.nox.run [] s1 (L2.start N vs) H _ I q) (fun fl s' z => ?_) fun e s' z => z
  have fin : ∀ {σ' : Si} {H' : Hp} {v : V} {u : Value}, Inv (cxH CX0 P w K mg base N qual (defScope st) f cdv A outer s H E p) [] σ' H' s' → RelV v u → Q v H' → CE outer P w H s Q u s' := by
    intro σ' H' v u J rv y
    exact ⟨v, H', J.os, J.bare, J.base, J.hok, rv, y⟩
  cases fl with
  | ret u =>
    obtain ⟨v, σ', H', J, rv, y⟩ := z
    exact fin J rv y
  | next =>
    obtain ⟨σ', H', J, y⟩ := z
    exact fin (v := V.non) (u := Value.none) J rfl y
  | brk =>
    obtain ⟨_, _, _, y⟩ := z
    exact y.elim
  | cont =>
    obtain ⟨_, _, _, y⟩ := z
    exact y.elim
section
variable {X : Cx} {k : Nat} {f : Addr} {fd : FuncData} {ps : List Str} {sp : Pin → Sp} {x : Str} {q pos : Pos} {e : Expr} {es : List Expr} {t : TA} {p : Pin}
theorem pe_callP (Fp : FnP X.prog X.w X.K X.mg X.base k f fd ps sp) (room : RoomH k X.A) (hp : p ∈ X.pn) (hg : Gl X x) (hm : X.mg x = some (.ref f)) (hk : PySem.W.keepIn X.K (.ref f) = true) (hb : Binds X.K fd ps [])
    (ha : PA X (e :: es) t) (noDbg : (x == ("__debug__" : Str)) = false := by decide) (star1 : starEach (e :: es) X.env = (false, eval e X.env) :: starEach es X.env := by rfl) (plain : (backTo pos (starEach es X.env)).any (·.1) = false := by rfl) :
    PE X (.Call (.Name x q) (e :: es) [] pos) (tCall (sp p) [] E0 t) := by
  refine ⟨fun pins s σ H Q I h => wpAny_Call_Name_kw (ld_glob I hg hm ?_ noDbg)⟩
  refine PySem.W.callWith_K (h₀ := X.base) I.ok.mod.kin hk (thn (ha.run pos pins s σ H _ I h) fun us s1 hh => ?_) star1 plain
  obtain ⟨vs, H1, I1, r, y⟩ := hh
  refine ⟨I1.kIn, ?_⟩
  have y' : sp p vs H1 Q E0 := by
    rw [← List.append_nil vs]
    exact y
  have hl : us.length = ps.length := by
    rw [← r.length]
    exact Fp.len _ _ _ _ _ y'
  have b := hb s1 us I1.kIn (by rw [List.append_nil]; exact hl)
  rw [List.append_nil] at b
  have P1 := I1.pin p (List.mem_append_left _ hp)
  have pin : PinOk X.stack H1 s1 p := ⟨P1.1, P1.2.1, fun hm => (List.mem_cons.1 (I1.stkSub p.1 hm)).elim P1.2.2.1 P1.2.2.2.1, P1.2.2.2.2⟩
  refine wpAny_call (codeAny_mono (Fp.run X.A X.stack s1 H1 ⟨us, []⟩ us vs Q E0 p room pin I1.env0 b r y') fun r' s' z => ?_)
  cases r' with
  | error er => exact False.elim z
  | ok fl =>
    cases fl with
    | ret u => exact I1.after z
    | next => exact False.elim z
    | brk => exact False.elim z
    | cont => exact False.elim z
end
end Ko

/-! The text by places, what the top leaves, the bag of the draws -/
namespace Ko
open PySem L2 PySem.Spec PyProof.Rows
def top (i : Nat) : Stmt := PySem.Challenge.pw_mostlaid_k00_errors_by_themselves.main.body.getD i (.Pass ⟨0, 0, 0, 0⟩)
/-- b holds a bag: the cells at c, a place in them, the rest of a great one, a seed, a count -/
def Bag (H : Hp) (b c : Addr) : Prop := c ≠ b ∧ ∃ (ns : List Int) (at_ gr sd ct : Int), H b = some (.lst [.ref c, .int at_, .int gr, .int sd, .int ct]) ∧ H c = some (.lst (ns.map V.int)) ∧
  0 ≤ at_ ∧ 0 ≤ gr ∧ 0 ≤ sd ∧ sd < 2147483563
/-- all but b stands, b is a bag still -/
def Kp (b c : Addr) (H H' : Hp) : Prop := (∀ a o, a ≠ b → H a = some o → H' a = some o) ∧ Bag H' b c
theorem Kp.bag {b c : Addr} {H H' : Hp} (k : Kp b c H H') : Bag H' b c := k.2
theorem Kp.at {b c a : Addr} {H H' : Hp} {o : HO} (k : Kp b c H H') (h : a ≠ b) (e : H a = some o) : H' a = some o := k.1 a o h e
theorem Kp.trans {b c : Addr} {H H1 H2 : Hp} (k : Kp b c H H1) (k2 : Kp b c H1 H2) : Kp b c H H2 := ⟨fun a o h e => k2.1 a o h (k.1 a o h e), k2.2⟩
theorem Kp.refl {b c : Addr} {H : Hp} (B : Bag H b c) : Kp b c H H := ⟨fun _ _ _ e => e, B⟩
theorem Bag.has {H : Hp} {b c : Addr} (B : Bag H b c) : (∃ o, H b = some o) ∧ ∃ o, H c = some o := by
  obtain ⟨hc, ns, at_, gr, sd, ct, h, h2, _⟩ := B
  exact ⟨⟨_, h⟩, _, h2⟩
theorem Bag.free {H : Hp} {b c p : Addr} (B : Bag H b c) (n : H p = none) : p ≠ b ∧ p ≠ c := by
  obtain ⟨⟨o, h⟩, u, h2⟩ := B.has
  exact ⟨(ne_of_none h n).symm, (ne_of_none h2 n).symm⟩
/-- another object beside the bag is written -/
theorem Bag.put {H : Hp} {b c p : Addr} {o : HO} (B : Bag H b c) (hb : p ≠ b) (hc : p ≠ c) : Bag (upd H p o) b c := by
  obtain ⟨h, ns, at_, gr, sd, ct, h1, h2, r⟩ := B
  exact ⟨h, ns, at_, gr, sd, ct, by rw [upd_ne hb.symm]; exact h1, by rw [upd_ne hc.symm]; exact h2, r⟩
theorem Kp.put {b c p : Addr} {H H' : Hp} {o : HO} (k : Kp b c H H') (n : H p = none) (hb : p ≠ b) (hc : p ≠ c) : Kp b c H (upd H' p o) :=
  ⟨fun a u h e => by rw [upd_ne (ne_of_none e n)]; exact k.1 a u h e, k.2.put hb hc⟩
/-- something new beside the bag -/
theorem Kp.new {b c p : Addr} {H H' : Hp} {o : HO} (k : Kp b c H H') (n : H' p = none) : Kp b c H (upd H' p o) := by
  obtain ⟨hb, hc⟩ := k.2.free n
  refine ⟨fun a u h e => ?_, k.2.put hb hc⟩
  have q := k.1 a u h e
  rw [upd_ne (ne_of_none q n)]
  exact q
theorem Bag.nePair {H : Hp} {b c a : Addr} {xs : List V} (B : Bag H b c) (e : H a = some (.lst xs)) (h : xs.length ≠ 5) : a ≠ b := by
  obtain ⟨_, ns, at_, gr, sd, ct, q, _⟩ := B
  intro z
  rw [z, q] at e
  cases e
  exact h rfl
theorem Bag.neTup {H : Hp} {b c a : Addr} {xs : List V} (B : Bag H b c) (e : H a = some (.tup xs)) : a ≠ b := by
  obtain ⟨_, ns, at_, gr, sd, ct, q, _⟩ := B
  intro z
  rw [z, q] at e
  cases e
theorem Bag.same {H H' : Hp} {b c : Addr} (B : Bag H b c) (s : Same H H') : Bag H' b c := by
  obtain ⟨h, ns, at_, gr, sd, ct, h1, h2, r⟩ := B
  exact ⟨h, ns, at_, gr, sd, ct, s _ _ h1, s _ _ h2, r⟩
theorem Same.new {H H' : Hp} {p : Addr} {o : HO} (s : Same H H') (n : H' p = none) : Same H (upd H' p o) := fun a u e => by
  have q := s a u e
  rw [upd_ne (ne_of_none q n)]
  exact q
theorem Kp.same {b c : Addr} {H H1 H2 : Hp} (k : Kp b c H H1) (s : Same H1 H2) : Kp b c H H2 := ⟨fun a o h e => s a o (k.1 a o h e), k.2.same s⟩
/-- the built-in names that the text uses -/
structure Blt (mg : Str → Option Value) : Prop where
  n_len : mg "len" = none
  n_int : mg "int" = none
  n_str : mg "str" = none
  n_list : mg "list" = none
  n_tuple : mg "tuple" = none
  n_bool : mg "bool" = none
  n_range : mg "range" = none
  n_zip : mg "zip" = none
  n_all : mg "all" = none
  n_isinstance : mg "isinstance" = none
  n_ValueError : mg "ValueError" = none
/-- a def of the text at f, its promise at a level -/
structure Df (P : Program) (w : World) (K : PySem.W.Frag) (mg : Str → Option Value) (base : Heap) (k : Nat) (x : Str) (f : Addr) (ps : List Str) (sp : Sp) : Prop where
  g : mg x = some (.ref f)
  kp : PySem.W.keepIn K (Value.ref f) = true
  ok : ∃ fd, FnOk P w K mg base CX0 k f fd ps sp ∧ Binds K fd ps []
end Ko

namespace Ko
open PySem L2 PySem.Spec PyProof.Rows
open C8 (pss_cut tCut)
abbrev s_draw : Stmt := top 35
theorem sc_draw : FnScope ["_law_bag_here", "_law_many", "_law_cell", "_law_digit", "_law_seed"] ["_law_bag_here", "_law_many"] (defScope s_draw) := ⟨rfl, rfl, rfl, by decide +kernel, rfl, by decide +kernel, by decide +kernel⟩
/-- a number from 0 up, below m; the bag is a bag still -/
def spDraw : Sp := fun vs H Q _ => ∃ (b c : Addr) (m : Int), vs = [.ref b, .int m] ∧ 0 < m ∧ m < 1073741824 ∧ Bag H b c ∧ ∀ i H', 0 ≤ i → i < m → Kp b c H H' → Q (.int i) H'
/-- the bag is written -/
theorem put_bag {Qn : Hp → Prop} {H0 H : Hp} {b cs : Addr} {ns : List Int} {at_ gr sd ct : Int} {L : List V} (k : Kp b cs H0 H) (hc : cs ≠ b) (h2 : H cs = some (.lst (ns.map V.int)))
    (e : L = [.ref cs, .int at_, .int gr, .int sd, .int ct]) (a0 : 0 ≤ at_) (g0 : 0 ≤ gr) (s0 : 0 ≤ sd) (s1 : sd < 2147483563)
    (q : ∀ H1 : Hp, H1 b = some (.lst [.ref cs, .int at_, .int gr, .int sd, .int ct]) → H1 cs = some (.lst (ns.map V.int)) → Kp b cs H0 H1 → Qn H1) : Qn (upd H b (.lst L)) := by
  subst e
  have e1 : upd H b (.lst [.ref cs, .int at_, .int gr, .int sd, .int ct]) b = some (.lst [.ref cs, .int at_, .int gr, .int sd, .int ct]) := upd_same
  have e2 : upd H b (.lst [.ref cs, .int at_, .int gr, .int sd, .int ct]) cs = some (.lst (ns.map V.int)) := by
    rw [upd_ne hc]
    exact h2
  refine q _ e1 e2 ⟨fun a o h x => ?_, hc, ns, at_, gr, sd, ct, e1, e2, a0, g0, s0, s1⟩
  rw [upd_ne h]
  exact k.1 a o h x
theorem dec_zero {i : Int} : decide (V.int i = V.int 0) = decide (i = 0) := by
  by_cases h : i = 0
  · subst h
    rfl
  · rw [decide_eq_false h, decide_eq_false (fun z => h (V.int.inj z))]
section
variable {P : Program} {w : World} {K : PySem.W.Frag} {mg : Str → Option Value} {base : Heap} {f : Addr} {fd : FuncData}
theorem ok_draw (F : Fun K "_law_draw" "_law_draw" s_draw f fd) (T : Blt mg) : FnOk P w K mg base CX0 1 f fd ["_law_bag_here", "_law_many"] spDraw := by
  refine F.ok sc_draw (fun vs H Q E h => ?_) (fun cdv A outer s H vs Q E hr h => ?_)
  · obtain ⟨b, c, m, rfl, _⟩ := h
    rfl
  · obtain ⟨b, cs, m, rfl, m0, m1, B0, q⟩ := h
    have k0 := Kp.refl B0
    obtain ⟨hne, ns, at_, gr, sd, ct, hb, hcs, a0, g0, s0, s1⟩ := B0
    refine ⟨_, (pss_cons (ps_asg (pe_op op_add (pe_ix ix_list (pv 0) pe_int (fun _ _ => rfl)) pe_int) (pg_sub (pv 0) pe_int set_list))
      (pss_cut (ps_if (PW.pt (pw_and (pt_cmpR op_eq (pe_ix ix_list (pv 0) pe_int (fun _ _ => rfl)) pe_int (nomark _)) (pw_and1 (pt_cmpR op_lt (pe_ix ix_list (pv 0) pe_int (fun _ _ => rfl)) (pe_callB call_len_seq (by rfl) T.n_len PySem.boot_len (pa_cons (pe_ix ix_list (pv 0) pe_int (fun _ _ => rfl)) pa_nil)) (nomark _)))))
      (pss_cons (ps_set (i := 2) sc_draw.nd rfl (.inl rfl) (pe_ix ix_list (pe_ix ix_list (pv 0) pe_int (fun _ _ => rfl)) (pe_ix ix_list (pv 0) pe_int (fun _ _ => rfl)) (fun _ _ => rfl)))
      (pss_cons (ps_asg (pe_op op_add (pe_ix ix_list (pv 0) pe_int (fun _ _ => rfl)) pe_int) (pg_sub (pv 0) pe_int set_list))
      (pss_one (ps_if (pt_cmpR op_ge (pv 2) (pe_op op_pow pe_int pe_int) (nomark _))
      (pss_one (ps_asg (pv 2) (pg_sub (pv 0) pe_int set_list))) (pss_one (ps_asg (pe_op op_mod (pe_callTy call_int1 (by rfl) T.n_int (by decide +kernel) (pa_cons (pe_op op_add (pe_op op_add (pe_op op_mul (pe_ix ix_list (pv 0) pe_int (fun _ _ => rfl)) pe_int) (pe_op op_mul (pe_op op_mod (pe_callTy call_int1 (by rfl) T.n_int (by decide +kernel) (pa_cons (pv 2) pa_nil)) pe_int) pe_int)) pe_int) pa_nil)) pe_int) (pg_sub (pv 0) pe_int set_list))))))) pss_nil)
      (pss_cons (ps_if (pt_cmpR op_gt (pe_ix ix_list (pv 0) pe_int (fun _ _ => rfl)) pe_int (nomark _))
      (pss_cons (ps_set (i := 3) sc_draw.nd rfl (.inl rfl) (pe_op op_mod (pe_callTy call_int1 (by rfl) T.n_int (by decide +kernel) (pa_cons (pe_ix ix_list (pv 0) pe_int (fun _ _ => rfl)) pa_nil)) (pv 1)))
      (pss_cons (ps_asg (pe_op op_fdiv (pe_ix ix_list (pv 0) pe_int (fun _ _ => rfl)) (pv 1)) (pg_sub (pv 0) pe_int set_list))
      (pss_one (ps_ret (pv 3))))) pss_nil)
      (pss_cons (ps_set (i := 4) sc_draw.nd rfl (.inl rfl) (pe_ix ix_list (pv 0) pe_int (fun _ _ => rfl)))
      (pss_cons (ps_asg (pe_op op_mod (pe_callTy call_int1 (by rfl) T.n_int (by decide +kernel) (pa_cons (pe_op op_add (pe_op op_add (pe_op op_add (pe_op op_mul (pe_op op_mul (pv 4) (pv 4)) pe_int) (pe_op op_mul (pv 4) pe_int)) (pe_op op_mul (pe_ix ix_list (pv 0) pe_int (fun _ _ => rfl)) pe_int)) pe_int) pa_nil)) pe_int) (pg_sub (pv 0) pe_int set_list))
      (pss_one (ps_ret (pe_op op_mod (pe_callTy call_int1 (by rfl) T.n_int (by decide +kernel) (pa_cons (pe_op op_add (pe_op op_fdiv (pe_ix ix_list (pv 0) pe_int (fun _ _ => rfl)) pe_int) (pe_op op_mul (pe_op op_mod (pe_callTy call_int1 (by rfl) T.n_int (by decide +kernel) (pa_cons (pe_ix ix_list (pv 0) pe_int (fun _ _ => rfl)) pa_nil)) pe_int) pe_int)) pa_nil)) (pv 1))))))))), ?_⟩
    refine ⟨_, rfl, b, _, 4, .int ct, rfl, rfl, SqL.of hb, rfl, _, _, rfl, rfl, _, rfl, b, _, 4, 4, rfl, rfl, hb, rfl, ?_⟩
    refine put_bag (at_ := at_) (gr := gr) (sd := sd) (ct := ct + 1) k0 hne hcs rfl a0 g0 s0 s1 fun H1 h1 c1 k1 => ?_
    refine ⟨fun σ' H' => (∃ x2, σ' = [some (.ref b), some (.int m), x2, none, none]) ∧ Kp b cs H H', ?_, ?_⟩
    · refine ⟨_, rfl, b, _, 2, .int gr, rfl, rfl, SqL.of h1, rfl, rfl, _, rfl, ?_⟩
      rw [dec_zero]
      refine ite2 (fun c => ?_) (fun c => iteF ⟨⟨none, rfl⟩, k1⟩)
      refine ⟨_, rfl, b, _, 1, .int at_, rfl, rfl, SqL.of h1, rfl, _, rfl, b, _, 0, .ref cs, rfl, rfl, SqL.of h1, rfl, cs, _, rfl, .inl (SqL.of c1), _, _, rfl, rfl, _, rfl, ?_⟩
      refine ite2 (fun c2 => ?_) (fun c2 => ⟨⟨none, rfl⟩, k1⟩)
      have lt : at_ < ((ns.map V.int).length : Int) := of_decide_eq_true c2
      rw [List.length_map] at lt
      obtain ⟨z, hz⟩ : ∃ z, ns[at_.toNat]? = some z := ⟨_, List.getElem?_eq_getElem (by omega)⟩
      have hat : atI (ns.map V.int) at_ = some (V.int z) := by
        have e : at_ = ((at_.toNat : Nat) : Int) := by omega
        rw [e]
        refine atI_nat ?_
        rw [List.getElem?_map, hz]
        rfl
      refine ⟨_, rfl, b, _, 0, .ref cs, rfl, rfl, SqL.of h1, rfl, _, rfl, b, _, 1, .int at_, rfl, rfl, SqL.of h1, rfl, cs, _, at_, .int z, rfl, rfl, SqL.of c1, hat, ?_⟩
      refine ⟨_, rfl, b, _, 1, .int at_, rfl, rfl, SqL.of h1, rfl, _, _, rfl, rfl, _, rfl, b, _, 1, 1, rfl, rfl, h1, rfl, ?_⟩
      refine put_bag (at_ := at_ + 1) (gr := gr) (sd := sd) (ct := ct + 1) k1 hne c1 rfl (by omega) g0 s0 s1 fun H2 h2 c2 k2 => ?_
      refine ⟨_, rfl, _, _, rfl, rfl, ⟨by decide, by decide, by decide⟩, z, _, rfl, rfl, _, rfl, ?_⟩
      refine ite2 (fun c3 => ?_) (fun c3 => ?_)
      · have big : (10 : Int) ^ (18 : Int).toNat ≤ z := of_decide_eq_true c3
        have pos : (0 : Int) ≤ 10 ^ (18 : Int).toNat := by decide
        refine ⟨_, rfl, _, rfl, b, _, 2, 2, rfl, rfl, h2, rfl, ?_⟩
        refine put_bag (at_ := at_ + 1) (gr := z) (sd := sd) (ct := ct + 1) k2 hne c2 rfl (by omega) (by omega) s0 s1 fun H3 h3 c3 k3 => ?_
        exact ⟨⟨_, rfl⟩, k3⟩
      · have y0 := Int.emod_nonneg z (b := 2147483423) (by decide)
        have y1 := Int.emod_lt_of_pos z (b := 2147483423) (by decide)
        refine ⟨_, rfl, b, _, 3, .int sd, rfl, rfl, SqL.of h2, rfl, _, _, rfl, rfl, .inl ⟨by omega, by omega⟩, _, rfl, .inl ⟨_, rfl, ?_⟩⟩
        refine ⟨_, _, rfl, rfl, by show (0 : Int) < _; decide, _, _, rfl, rfl, .inl ⟨by omega, by omega⟩, _, _, rfl, rfl, _, _, rfl, rfl, .inl ⟨_, rfl, ?_⟩⟩
        refine ⟨_, _, rfl, rfl, by show (0 : Int) < _; decide, _, rfl, b, _, 3, 3, rfl, rfl, h2, rfl, ?_⟩
        refine put_bag (at_ := at_ + 1) (gr := gr) (ct := ct + 1) k2 hne c2 rfl (by omega) g0 (Int.emod_nonneg _ (by decide)) (Int.emod_lt_of_pos _ (by decide)) fun H3 h3 c3 k3 => ?_
        exact ⟨⟨_, rfl⟩, k3⟩
    · rintro σ' H2 ⟨⟨x2, rfl⟩, k2⟩
      obtain ⟨hne, ns, at_, gr, sd, ct, h2, c2, a0, g0, s0, s1⟩ := k2.2
      refine ⟨_, rfl, b, _, 2, .int gr, rfl, rfl, SqL.of h2, rfl, _, _, rfl, rfl, _, rfl, ?_⟩
      refine ite2 (fun c => ?_) (fun c => ?_)
      · have pos : 0 < gr := of_decide_eq_true c
        refine ⟨_, rfl, b, _, 2, .int gr, rfl, rfl, SqL.of h2, rfl, .inl ⟨_, rfl, ?_⟩⟩
        refine ⟨_, rfl, _, _, rfl, rfl, m0, ?_⟩
        refine ⟨_, rfl, b, _, 2, .int gr, rfl, rfl, SqL.of h2, rfl, _, rfl, _, _, rfl, rfl, ⟨m0, m1⟩, _, rfl, b, _, 2, 2, rfl, rfl, h2, rfl, ?_⟩
        refine put_bag (at_ := at_) (gr := gr / m) (sd := sd) (ct := ct) k2 hne c2 rfl a0 (Int.ediv_nonneg g0 (by omega)) s0 s1 fun H3 h3 c3 k3 => ?_
        exact ⟨_, rfl, q _ _ (Int.emod_nonneg _ (by omega)) (Int.emod_lt_of_pos _ m0) k3⟩
      · refine ⟨_, rfl, b, _, 3, .int sd, rfl, rfl, SqL.of h2, rfl, ?_⟩
        refine ⟨_, rfl, _, rfl, _, _, rfl, rfl, .inl ⟨by omega, by omega⟩, _, _, rfl, rfl, .inr ⟨by decide, by decide⟩, _, rfl, _, _, rfl, rfl, .inl ⟨by omega, by omega⟩, _, _, rfl, rfl, ?_⟩
        refine ⟨_, rfl, b, _, 4, .int ct, rfl, rfl, SqL.of h2, rfl, _, _, rfl, rfl, .inr ⟨by decide, by decide⟩, _, _, rfl, rfl, _, _, rfl, rfl, .inl ⟨_, rfl, ?_⟩⟩
        refine ⟨_, _, rfl, rfl, by show (0 : Int) < _; decide, _, rfl, b, _, 3, 3, rfl, rfl, h2, rfl, ?_⟩
        have e0 := Int.emod_nonneg (sd * sd * 11 + sd * 42013 + ct * 1299721 + 50021) (b := 2147483563) (by decide)
        have e1 := Int.emod_lt_of_pos (sd * sd * 11 + sd * 42013 + ct * 1299721 + 50021) (b := 2147483563) (by decide)
        refine put_bag (at_ := at_) (gr := gr) (ct := ct) k2 hne c2 rfl a0 g0 e0 e1 fun H3 h3 c3 k3 => ?_
        generalize (sd * sd * 11 + sd * 42013 + ct * 1299721 + 50021) % 2147483563 = sq at h3
        refine ⟨_, rfl, b, _, 3, .int sq, rfl, rfl, SqL.of h3, rfl, _, _, rfl, rfl, ⟨by decide, by decide⟩, ?_⟩
        have w0 := Int.emod_nonneg sq (b := 7919) (by decide)
        have w1 := Int.emod_lt_of_pos sq (b := 7919) (by decide)
        refine ⟨_, rfl, b, _, 3, .int sq, rfl, rfl, SqL.of h3, rfl, .inl ⟨_, rfl, ?_⟩⟩
        refine ⟨_, _, rfl, rfl, by show (0 : Int) < _; decide, _, _, rfl, rfl, .inl ⟨by omega, by omega⟩, _, _, rfl, rfl, .inl ⟨_, rfl, ?_⟩⟩
        exact ⟨_, rfl, _, _, rfl, rfl, m0, q _ _ (Int.emod_nonneg _ (by omega)) (Int.emod_lt_of_pos _ m0) k3⟩
end
end Ko

namespace Ko
open PySem L2 PySem.Spec PyProof.Rows
open C8 (pss_cut tCut)
abbrev s_of : Stmt := top 36
theorem sc_of : FnScope ["_law_bag_here", "_law_things"] ["_law_bag_here", "_law_things"] (defScope s_of) := ⟨rfl, rfl, rfl, by decide +kernel, rfl, by decide +kernel, by decide +kernel⟩
abbrev s_mixed : Stmt := top 37
theorem sc_mixed : FnScope ["_law_bag_here", "_law_things", "_law_found", "_law_thing"] ["_law_bag_here", "_law_things"] (defScope s_mixed) := ⟨rfl, rfl, rfl, by decide +kernel, rfl, by decide +kernel, by decide +kernel⟩
abbrev s_bag : Stmt := top 34
theorem sc_bag : FnScope ["_law_script", "_law_seed", "_law_cell"] ["_law_script"] (defScope s_bag) := ⟨rfl, rfl, rfl, by decide +kernel, rfl, by decide +kernel, by decide +kernel⟩

/-- one of the things -/
def spOf : Sp := fun vs H Q _ => ∃ (b c l : Addr) (xs : List V), vs = [.ref b, .ref l] ∧ l ≠ b ∧ H l = some (.lst xs) ∧ 0 < xs.length ∧ xs.length < 1000 ∧ Bag H b c ∧ ∀ x H', x ∈ xs → Kp b c H H' → Q x H'
/-- the things in some order: of them alone -/
def spMixed : Sp := fun vs H Q _ => ∃ (b c l : Addr) (xs : List V), vs = [.ref b, .ref l] ∧ l ≠ b ∧ H l = some (.lst xs) ∧ xs.length < 1000 ∧ Bag H b c ∧
  ∀ p ys H', (∀ y ∈ ys, y ∈ xs) → H' p = some (.lst ys) → p ≠ b → Kp b c H H' → Q (.ref p) H'
/-- a new bag -/
def spBag (K : PySem.W.Frag) : Sp := fun vs H Q _ => ∃ (a : Addr) (ns : List Int), vs = [.ref a] ∧ SqL K H a (ns.map V.int) ∧ ∀ b c H', Same H H' → Bag H' b c → Q (.ref b) H'
theorem cutV_ints (ns : List Int) (lo hi : Option Int) : ∃ ms : List Int, cutV (ns.map V.int) lo hi = ms.map V.int := by
  refine ⟨(ns.drop (HT.sIx ns.length 0 lo)).take (HT.sIx ns.length ns.length hi - HT.sIx ns.length 0 lo), ?_⟩
  unfold cutV
  rw [List.length_map, List.map_take, List.map_drop]
section
variable {P : Program} {w : World} {K : PySem.W.Frag} {mg : Str → Option Value} {base : Heap} {f fD : Addr} {fd : FuncData}
theorem ok_of (F : Fun K "_law_of" "_law_of" s_of f fd) (T : Blt mg) (D_draw : Df P w K mg base 1 "_law_draw" fD ["_law_bag_here", "_law_many"] spDraw) : FnOk P w K mg base CX0 2 f fd ["_law_bag_here", "_law_things"] spOf := by
  obtain ⟨fdD, G_draw, B_draw⟩ := D_draw.ok
  refine F.ok sc_of (fun vs H Q E h => ?_) (fun cdv A outer s H vs Q E hr h => ?_)
  · obtain ⟨b, c, l, xs, rfl, _⟩ := h
    rfl
  · obtain ⟨b, c, l, xs, rfl, hlb, hl, n0, n1, B0, q⟩ := h
    refine ⟨_, (pss_one (ps_ret (pe_ix ix_list (pv 1) (pe_call G_draw (hr.mono (by decide)) (by rfl) D_draw.g D_draw.kp B_draw .nil pass0 (pa_cons (pv 0) (pa_cons (pe_callB call_len_seq (by rfl) T.n_len PySem.boot_len (pa_cons (pv 1) pa_nil)) pa_nil))) (fun _ _ => rfl)))), ?_⟩
    refine ⟨_, rfl, _, rfl, _, rfl, l, xs, rfl, .inl (SqL.of hl), b, c, _, rfl, by omega, by omega, B0, fun i H' i0 i1 k => ?_⟩
    obtain ⟨x, hx⟩ : ∃ x, xs[i.toNat]? = some x := ⟨_, List.getElem?_eq_getElem (by omega)⟩
    have hat : atI xs i = some x := by
      have e : i = ((i.toNat : Nat) : Int) := by omega
      rw [e]
      exact atI_nat hx
    exact ⟨l, xs, i, x, rfl, rfl, SqL.of (k.at hlb hl), hat, q x H' (List.mem_of_getElem? hx) k⟩
theorem ok_mixed (F : Fun K "_law_mixed" "_law_mixed" s_mixed f fd) (T : Blt mg) (D_draw : Df P w K mg base 1 "_law_draw" fD ["_law_bag_here", "_law_many"] spDraw) : FnOk P w K mg base CX0 2 f fd ["_law_bag_here", "_law_things"] spMixed := by
  obtain ⟨fdD, G_draw, B_draw⟩ := D_draw.ok
  refine F.ok sc_mixed (fun vs H Q E h => ?_) (fun cdv A outer s H vs Q E hr h => ?_)
  · obtain ⟨b, c, l, xs, rfl, _⟩ := h
    rfl
  · obtain ⟨b, c, l, xs, rfl, hlb, hl, n1, B0, q⟩ := h
    refine ⟨_, (pss_cons (ps_set (i := 2) sc_mixed.nd rfl (.inl rfl) (pe_lst pa_nil))
      (pss_cons (ps_for PassesOwn.never rfl (pi_list (pv 1)) (pg_name (i := 3) sc_mixed.nd rfl (.inl rfl))
      (pss_one (ps_expr (pe_bm PySem.F.plainAttrs_list PySem.F.slot_list_insert PySem.F.type_list_insert mt_insert (pv 2) (pa_cons (pe_call G_draw (hr.mono (by decide)) (by rfl) D_draw.g D_draw.kp B_draw .nil pass0 (pa_cons (pv 0) (pa_cons (pe_op op_add (pe_callB call_len_seq (by rfl) T.n_len PySem.boot_len (pa_cons (pv 2) pa_nil)) pe_int) pa_nil))) (pa_cons (pv 3) pa_nil))))))
      (pss_one (ps_ret (pv 2))))), ?_⟩
    refine ⟨by show 0 ≤ sizeLine; decide, fun p hp => ?_⟩
    obtain ⟨hpb, hpc⟩ := B0.free hp
    refine ⟨_, rfl, l, rfl, ⟨_, SqL.of (((Kp.refl B0).new hp).at hlb hl)⟩, for_list (K := K) (a := l) (xs := xs)
      (fun i σ H' => ∃ ys v, σ = [some (.ref b), some (.ref l), some (.ref p), v] ∧ H' p = some (.lst ys) ∧ ys.length = i ∧ (∀ y ∈ ys, y ∈ xs) ∧ Kp b c H H')
      ⟨[], none, rfl, upd_same, rfl, (fun y hy => by cases hy), (Kp.refl B0).new hp⟩ (fun i σ H' _ h => ?_) ?_ ?_⟩
    · obtain ⟨ys, v, _, _, _, _, k⟩ := h
      exact SqL.of (k.at hlb hl)
    · rintro i x σ H1 hx ⟨ys, v, rfl, hy, hlen, hin, k1⟩
      have hi : i < xs.length := (List.getElem?_eq_some_iff.mp hx).1
      refine ⟨_, rfl, .inl ⟨rfl, _, SqL.of hy⟩, _, rfl, _, rfl, p, ys, rfl, .inl (SqL.of hy), _, _, rfl, rfl, b, c, _, rfl, by omega, by omega, k1.bag, fun j H2 j0 j1 k2 => ?_⟩
      have hy2 := k2.at hpb hy
      refine ⟨_, rfl, p, ys, j, x, rfl, rfl, hy2, by rw [sizeLine_eq]; omega, j0, by omega, ?_⟩
      refine ⟨_, _, rfl, upd_same, ?_, fun y hm => ?_, ?_⟩
      · simp only [List.length_append, List.length_cons, List.length_nil, List.length_take, List.length_drop]
        omega
      · simp only [List.mem_append, List.mem_cons, List.not_mem_nil, or_false] at hm
        rcases hm with (hm | hm) | hm
        · exact hin y (List.mem_of_mem_take hm)
        · rw [hm]
          exact List.mem_of_getElem? hx
        · exact hin y (List.mem_of_mem_drop hm)
      · exact (k1.trans k2).put hp hpb hpc
    · rintro σ H1 ⟨ys, v, rfl, hy, hlen, hin, k1⟩
      exact ⟨_, rfl, q p ys H1 hin hy hpb k1⟩
theorem ok_bag (F : Fun K "_law_bag" "_law_bag" s_bag f fd) (T : Blt mg) : FnOk P w K mg base CX0 1 f fd ["_law_script"] (spBag K) := by
  refine F.ok sc_bag (fun vs H Q E h => ?_) (fun cdv A outer s H vs Q E hr h => ?_)
  · obtain ⟨a, ns, rfl, _⟩ := h
    rfl
  · obtain ⟨a, ns, rfl, hS, q⟩ := h
    refine ⟨_, (pss_cons (ps_set (i := 1) sc_bag.nd rfl (.inl rfl) pe_int)
      (pss_cons (ps_for PassesOwn.never rfl (pi_list (pe_slice sl_list (pv 0) po_none (po_some pe_int))) (pg_name (i := 2) sc_bag.nd rfl (.inl rfl))
      (pss_one (ps_set (i := 1) sc_bag.nd rfl (.inl rfl) (pe_op op_mod (pe_callTy call_int1 (by rfl) T.n_int (by decide +kernel) (pa_cons (pe_op op_add (pe_op op_add (pe_op op_mul (pv 1) pe_int) (pe_op op_mod (pe_callTy call_int1 (by rfl) T.n_int (by decide +kernel) (pa_cons (pv 2) pa_nil)) pe_int)) pe_int) pa_nil)) pe_int))))
      (pss_one (ps_ret (pe_lst (pa_cons (pe_callTy call_list_of (by rfl) T.n_list (by decide +kernel) (pa_cons (pe_slice sl_list (pv 0) po_none (po_some pe_int)) pa_nil)) (pa_cons pe_int (pa_cons pe_int (pa_cons (pv 1) (pa_cons pe_int pa_nil)))))))))), ?_⟩
    refine ⟨_, rfl, 63, rfl, a, _, rfl, hS, fun p hp => ?_⟩
    obtain ⟨ms, hms⟩ := cutV_ints ns none (some 63)
    refine ⟨p, rfl, ⟨_, SqL.of upd_same⟩, for_list (K := K) (a := p) (xs := cutV (ns.map V.int) none (some 63))
      (fun i σ H' => ∃ sd v, σ = [some (.ref a), some (.int sd), v] ∧ 0 ≤ sd ∧ sd < 2147483563 ∧ H' = upd H p (.lst (cutV (ns.map V.int) none (some 63))))
      ⟨13963, none, rfl, by decide, by decide, rfl⟩ (fun i σ H' _ h => ?_) ?_ ?_⟩
    · obtain ⟨sd, v, _, _, _, e⟩ := h
      rw [e]
      exact SqL.of upd_same
    · rintro i x σ H1 hx ⟨sd, v, rfl, s0, s1, rfl⟩
      obtain ⟨z, rfl⟩ : ∃ z, x = V.int z := by
        have hm := List.mem_of_getElem? hx
        rw [hms] at hm
        obtain ⟨z, _, e⟩ := List.mem_map.mp hm
        exact ⟨z, e.symm⟩
      have y0 := Int.emod_nonneg z (b := 2147483629) (by decide)
      have y1 := Int.emod_lt_of_pos z (b := 2147483629) (by decide)
      refine ⟨_, rfl, _, _, rfl, rfl, .inl ⟨by omega, by omega⟩, _, rfl, .inl ⟨_, rfl, ?_⟩⟩
      refine ⟨_, _, rfl, rfl, by show (0 : Int) < _; decide, _, _, rfl, rfl, _, _, rfl, rfl, .inl ⟨_, rfl, ?_⟩⟩
      refine ⟨_, _, rfl, rfl, by show (0 : Int) < _; decide, ?_⟩
      exact ⟨_, _, rfl, Int.emod_nonneg _ (by decide), Int.emod_lt_of_pos _ (by decide), rfl⟩
    · rintro σ H1 ⟨sd, v, rfl, s0, s1, rfl⟩
      have e1 : Same H (upd H p (.lst (cutV (ns.map V.int) none (some 63)))) := Same.new (Same.refl H) hp
      generalize upd H p (.lst (cutV (ns.map V.int) none (some 63))) = H1 at e1
      refine ⟨_, rfl, 63, rfl, a, _, rfl, e1.seq hS, fun p2 hp2 => ⟨p2, _, rfl, .inl (SqL.of upd_same), fun l hl => ?_⟩⟩
      refine ⟨_, rfl, by show 5 ≤ sizeLine; decide, fun b hb => ?_⟩
      have e3 := Same.new (o := .lst [.ref l, .int 0, .int 0, .int sd, .int 0]) (Same.new (o := .lst (cutV (ns.map V.int) none (some 63))) (Same.new (o := .lst (cutV (ns.map V.int) none (some 63))) e1 hp2) hl) hb
      have hbl : l ≠ b := (ne_of_none upd_same hb)
      refine q b l _ e3 ⟨hbl, ms, 0, 0, sd, 0, upd_same, ?_, by decide, by decide, s0, s1⟩
      rw [upd_ne hbl, upd_same, hms]
end
end Ko

namespace Ko
open PySem L2 PySem.Spec PyProof.Rows
open C8 (pss_cut tCut)
/-- a value without parts -/
def Leaf : V → Prop
  | .int _ => True
  | .str _ => True
  | .bl _ => True
  | .non => True
  | _ => False
theorem leafC {x : V} {xs : List V} (h : Leaf x) (r : ∀ y ∈ xs, Leaf y) : ∀ y ∈ x :: xs, Leaf y := fun y hy => by
  rcases List.mem_cons.1 hy with e | e
  · rw [e]
    exact h
  · exact r y e
def isLeaf : V → Bool
  | .int _ => true
  | .str _ => true
  | .bl _ => true
  | .non => true
  | _ => false
theorem leaf_of {v : V} (h : isLeaf v = true) : Leaf v := by
  cases v <;> first | trivial | cases h
theorem leaves {xs : List V} (h : xs.all isLeaf = true) : ∀ y ∈ xs, Leaf y := fun y hy => leaf_of (List.all_eq_true.mp h y hy)
theorem leafN : ∀ y ∈ ([] : List V), Leaf y := fun y hy => by cases hy
theorem small_log {i : Int} (h0 : 0 ≤ i) (h : i < 100000) : i.natAbs.log2 < 1920 := by
  by_cases z : i.natAbs = 0
  · rw [z]
    decide
  · refine (Nat.log2_lt z).mpr ?_
    have h1 : i.natAbs < 2 ^ 17 := by
      have e : (2 : Nat) ^ 17 = 131072 := by decide
      omega
    exact Nat.lt_of_lt_of_le h1 (Nat.pow_le_pow_right (by decide) (by decide))
/-- a value whose lists and tuples are nested at most so deep, all at addresses of which N holds -/
def Val (H : Hp) (N : Addr → Prop) : Nat → V → Prop
  | 0, v => Leaf v
  | d + 1, v => Leaf v ∨ ∃ a xs, v = .ref a ∧ N a ∧ (H a = some (.lst xs) ∨ H a = some (.tup xs)) ∧ xs.length ≤ 1000 ∧ ∀ x ∈ xs, Val H N d x
theorem Val.leaf {H : Hp} {N : Addr → Prop} {v : V} (h : Leaf v) : ∀ n, Val H N n v
  | 0 => h
  | _ + 1 => .inl h
theorem Val.keep {H H' : Hp} {N M : Addr → Prop} (k : ∀ a o, N a → H a = some o → H' a = some o) (i : ∀ a, N a → M a) : ∀ {n : Nat} {v : V}, Val H N n v → Val H' M n v
  | 0, _, h => h
  | n + 1, v, h => by
    rcases h with h | ⟨a, xs, e, ne, ha, hl, hx⟩
    · exact .inl h
    · refine .inr ⟨a, xs, e, i a ne, ?_, hl, fun x hm => Val.keep k i (hx x hm)⟩
      rcases ha with ha | ha
      · exact .inl (k _ _ ne ha)
      · exact .inr (k _ _ ne ha)
theorem Val.same {H H' : Hp} {N : Addr → Prop} {n : Nat} {v : V} (h : Val H N n v) (k : Same H H') : Val H' N n v := Val.keep (fun a o _ e => k a o e) (fun _ z => z) h
theorem Val.up {H : Hp} {N : Addr → Prop} : ∀ {n : Nat} {v : V}, Val H N n v → Val H N (n + 1) v
  | 0, _, h => .inl h
  | n + 1, v, h => by
    rcases h with h | ⟨a, xs, e, ne, ha, hl, hx⟩
    · exact .inl h
    · exact .inr ⟨a, xs, e, ne, ha, hl, fun x hm => Val.up (hx x hm)⟩
theorem Val.le {H : Hp} {N : Addr → Prop} {n m : Nat} {v : V} (h : Val H N n v) (l : n ≤ m) : Val H N m v := by
  induction l with
  | refl => exact h
  | step _ ih => exact ih.up
theorem Val.tup {H : Hp} {N : Addr → Prop} {a : Addr} {n : Nat} {xs : List V} (ne : N a) (h : H a = some (.tup xs)) (hl : xs.length ≤ 1000) (hx : ∀ x ∈ xs, Val H N n x) : Val H N (n + 1) (.ref a) :=
  .inr ⟨a, xs, rfl, ne, .inr h, hl, hx⟩
theorem Val.lst {H : Hp} {N : Addr → Prop} {a : Addr} {n : Nat} {xs : List V} (ne : N a) (h : H a = some (.lst xs)) (hl : xs.length ≤ 1000) (hx : ∀ x ∈ xs, Val H N n x) : Val H N (n + 1) (.ref a) :=
  .inr ⟨a, xs, rfl, ne, .inl h, hl, hx⟩
/-- a pair of leaves -/
theorem Val.pair {H : Hp} {N : Addr → Prop} {a : Addr} {x y : V} (n : Nat) (ne : N a) (h : H a = some (.tup [x, y])) (h1 : Leaf x) (h2 : Leaf y) : Val H N (n + 1) (.ref a) :=
  Val.tup ne h (by show 2 ≤ 1000; decide) fun z hz => Val.leaf (leafC h1 (leafC h2 leafN) z hz) n
theorem Kp.none {b c a : Addr} {H H' : Hp} (k : Kp b c H H') (n : H' a = none) : H a = none := by
  cases e : H a with
  | none => rfl
  | some o =>
    by_cases h : a = b
    · obtain ⟨⟨u, q⟩, _⟩ := k.bag.has
      rw [h, q] at n
      cases n
    · rw [k.1 a o h e] at n
      cases n
/-- free at H -/
abbrev Fre (H : Hp) : Addr → Prop := fun a => H a = none
abbrev s_value : Stmt := top 39
theorem sc_value : FnScope ["_law_bag_here", "_law_deep", "_law_way", "_law_found", "_law_k"] ["_law_bag_here", "_law_deep"] (defScope s_value) := ⟨rfl, rfl, rfl, by decide +kernel, rfl, by decide +kernel, by decide +kernel⟩

/-- a value of this depth -/
def spValue (d : Int) (n : Nat) : Sp := fun vs H Q _ => ∃ (b c : Addr), vs = [.ref b, .int d] ∧ Bag H b c ∧ ∀ v H', Val H' (Fre H) n v → Kp b c H H' → Q v H'
section
variable {P : Program} {w : World} {K : PySem.W.Frag} {mg : Str → Option Value} {base : Heap} {f fD fO : Addr} {fd : FuncData}
theorem ok_value1 {d : Int} {n k : Nat} (d0 : 0 ≤ d) (d1 : d < 2) (hn : d = 0 → 2 ≤ n) (hn1 : 1 ≤ n) (hk : 2 ≤ k) (F : Fun K "_law_value" "_law_value" s_value f fd) (T : Blt mg) (D_draw : Df P w K mg base 1 "_law_draw" fD ["_law_bag_here", "_law_many"] spDraw)
    (D_of : Df P w K mg base 2 "_law_of" fO ["_law_bag_here", "_law_things"] spOf) (D_value : Df P w K mg base k "_law_value" f ["_law_bag_here", "_law_deep"] (spValue (d + 1) n)) :
    FnOk P w K mg base CX0 (k + 1) f fd ["_law_bag_here", "_law_deep"] (spValue d (n + 1)) := by
  obtain ⟨fdD, G_draw, B_draw⟩ := D_draw.ok
  obtain ⟨fdO, G_of, B_of⟩ := D_of.ok
  obtain ⟨fdV, G_value, B_value⟩ := D_value.ok
  refine F.ok sc_value (fun vs H Q E h => ?_) (fun cdv A outer s H vs Q E hr h => ?_)
  · obtain ⟨b, c, rfl, _⟩ := h
    rfl
  · obtain ⟨b, c, rfl, B0, q⟩ := h
    have hr1 := hr.mono (show 1 ≤ k by omega)
    have hr2 := hr.mono hk
    refine ⟨_, (pss_cons (ps_set (i := 2) sc_value.nd rfl (.inl rfl) (pe_call G_draw hr1 (by rfl) D_draw.g D_draw.kp B_draw .nil pass0 (pa_cons (pv 0) (pa_cons (pe_ifExp (pt_cmpR op_lt (pv 1) pe_int (nomark _)) pe_int pe_int) pa_nil))))
      (pss_cons (ps_if (pt_cmpR op_lt (pv 2) pe_int (nomark _))
      (pss_one (ps_ret (pe_call G_of hr2 (by rfl) D_of.g D_of.kp B_of .nil pass0 (pa_cons (pv 0) (pa_cons (pe_lst (pa_cons pe_int (pa_cons pe_int (pa_cons (pe_un un_neg pe_int) (pa_cons (pe_call G_draw hr1 (by rfl) D_draw.g D_draw.kp B_draw .nil pass0 (pa_cons (pv 0) (pa_cons (pe_op op_pow pe_int pe_int) pa_nil))) (pa_cons (pe_un un_neg (pe_call G_draw hr1 (by rfl) D_draw.g D_draw.kp B_draw .nil pass0 (pa_cons (pv 0) (pa_cons pe_int pa_nil)))) pa_nil)))))) pa_nil))))) pss_nil)
      (pss_cons (ps_if (pt_cmpR op_lt (pv 2) pe_int (nomark _))
      (pss_one (ps_ret (pe_call G_of hr2 (by rfl) D_of.g D_of.kp B_of .nil pass0 (pa_cons (pv 0) (pa_cons (pe_lst (pa_cons pe_str (pa_cons pe_str (pa_cons pe_str (pa_cons pe_str (pa_cons pe_str (pa_cons pe_str (pa_cons (pe_callTy call_str_int (by rfl) T.n_str (by decide +kernel) (pa_cons (pe_call G_draw hr1 (by rfl) D_draw.g D_draw.kp B_draw .nil pass0 (pa_cons (pv 0) (pa_cons pe_int pa_nil))) pa_nil)) pa_nil)))))))) pa_nil))))) pss_nil)
      (pss_cons (ps_if (pt_cmpR op_lt (pv 2) pe_int (nomark _))
      (pss_one (ps_ret (pe_call G_of hr2 (by rfl) D_of.g D_of.kp B_of .nil pass0 (pa_cons (pv 0) (pa_cons (pe_lst (pa_cons pe_non (pa_cons pe_bl (pa_cons pe_bl (pa_cons (pe_tup (pa_cons pe_int (pa_cons pe_int pa_nil))) (pa_cons (pe_tup (pa_cons (pe_un un_neg pe_int) (pa_cons pe_int pa_nil))) (pa_cons (pe_ifExp (pt_cmpR op_eq (pv 1) pe_int (nomark _)) (pe_tup (pa_cons (pe_tup (pa_cons pe_int (pa_cons pe_int pa_nil))) (pa_cons (pe_tup (pa_cons pe_int (pa_cons pe_int pa_nil))) pa_nil))) (pe_tup (pa_cons pe_int (pa_cons pe_int pa_nil)))) pa_nil))))))) pa_nil))))) pss_nil)
      (pss_cons (ps_setLc (i := 3) (own := [("_law_k", 4)]) (g := gName 4) (tt := tYes) rfl sc_value.nd rfl rfl (sw_true rfl rfl rfl (by decide +kernel)) (pi_range1 (by rfl) T.n_range (pa_cons (pe_call G_draw hr1 (by rfl) D_draw.g D_draw.kp B_draw .nil pass0 (pa_cons (pv 0) (pa_cons pe_int pa_nil))) pa_nil)) (blkOk_by (N := ["_law_bag_here", "_law_deep", "_law_way", "_law_found", "_law_k"]) (sc := defScope s_value) (by decide +kernel)) (fun _ _ _ _ _ => pg_name (i := 4) sc_value.nd rfl (.inl rfl)) (fun _ _ _ _ _ => pts_nil) (fun _ _ _ _ _ => (pe_call G_value hr (by rfl) D_value.g D_value.kp B_value .nil pass0 (pa_cons (pv 0) (pa_cons (pe_op op_add (pv 1) pe_int) pa_nil)))))
      (pss_one (ps_ret (pe_ifExp (pt_cmpR op_lt (pv 2) pe_int (nomark _)) (pv 3) (pe_callTy call_tuple_of (by rfl) T.n_tuple (by decide +kernel) (pa_cons (pv 3) pa_nil)))))))))), ?_⟩
    refine ⟨_, rfl, _, rfl, _, _, rfl, rfl, _, rfl, ?_⟩
    rw [decide_eq_true d1]
    refine iteT ⟨b, c, 12, rfl, by decide, by decide, B0, fun way H1 w0 w1 k1 => ?_⟩
    refine ⟨_, rfl, _, _, rfl, rfl, _, rfl, ite2 (fun c1 => ?_) (fun c1 => ?_)⟩
    · refine ⟨_, rfl, 1, rfl, _, rfl, _, _, rfl, rfl, ⟨by decide, by decide, by decide⟩, b, c, _, rfl, by decide, by decide, k1.bag, fun i H2 i0 i1 k2 => ?_⟩
      refine ⟨_, rfl, b, c, 4000, rfl, by decide, by decide, k2.bag, fun j H3 j0 j1 k3 => ⟨j, rfl, by show 5 ≤ sizeLine; decide, fun l hl => ?_⟩⟩
      refine ⟨b, c, l, _, rfl, (k3.bag.free hl).1, upd_same, Nat.zero_lt_succ _, by show 5 < 1000; decide, ((Kp.refl k3.bag).new hl).bag, fun x H4 hx k4 => ?_⟩
      exact q x H4 (Val.leaf (leaves rfl x hx) _) (k1.trans (k2.trans ((k3.new hl).trans k4)))
    refine ⟨_, rfl, _, _, rfl, rfl, _, rfl, ite2 (fun c2 => ?_) (fun c2 => ?_)⟩
    · refine ⟨_, rfl, _, rfl, b, c, 1000, rfl, by decide, by decide, k1.bag, fun i H2 i0 i1 k2 => ⟨i, rfl, small_log i0 (by omega), by show 7 ≤ sizeLine; decide, fun l hl => ?_⟩⟩
      refine ⟨b, c, l, _, rfl, (k2.bag.free hl).1, upd_same, Nat.zero_lt_succ _, by show 7 < 1000; decide, ((Kp.refl k2.bag).new hl).bag, fun x H4 hx k4 => ?_⟩
      exact q x H4 (Val.leaf (leaves rfl x hx) _) (k1.trans ((k2.new hl).trans k4))
    refine ⟨_, rfl, _, _, rfl, rfl, _, rfl, ite2 (fun c3 => ?_) (fun c3 => ?_)⟩
    · refine ⟨_, rfl, by show 2 ≤ sizeLine; decide, fun t1 h1 => ⟨3, rfl, by show 2 ≤ sizeLine; decide, fun t2 h2 => ⟨_, rfl, rfl, _, rfl, ?_⟩⟩⟩
      have ka := k1.new (o := .tup [.int 1, .int 2]) h1
      have kb := ka.new (o := .tup [.int (-3), .int 4]) h2
      refine ite2 (fun c4 => ?_) (fun c4 => ?_)
      · have dz : d = 0 := V.int.inj (of_decide_eq_true c4)
        refine ⟨by show 2 ≤ sizeLine; decide, fun t3 h3 => ⟨by show 2 ≤ sizeLine; decide, fun t4 h4 => ⟨by show 2 ≤ sizeLine; decide, fun t5 h5 => ⟨by show 6 ≤ sizeLine; decide, fun l hl => ?_⟩⟩⟩⟩
        have kc := kb.new (o := .tup [.int 1, .int 2]) h3
        have kd := kc.new (o := .tup [.int 0, .int 1]) h4
        have ke := kd.new (o := .tup [.ref t3, .ref t4]) h5
        refine ⟨b, c, l, _, rfl, (ke.bag.free hl).1, upd_same, Nat.zero_lt_succ _, by show 6 < 1000; decide, ((Kp.refl ke.bag).new hl).bag, fun x H4 hx k4 => ?_⟩
        have k5 := ((Kp.refl ke.bag).new hl).trans k4
        have k6 := ((Kp.refl kd.bag).new h5).trans k5
        have k7 := ((Kp.refl kc.bag).new h4).trans k6
        have k8 := ((Kp.refl kb.bag).new h3).trans k7
        have k9 := ((Kp.refl ka.bag).new h2).trans k8
        refine q x H4 ?_ (ka.trans k9)
        rcases List.mem_cons.1 hx with e | hx
        · subst e; exact Val.leaf (by exact trivial) _
        rcases List.mem_cons.1 hx with e | hx
        · subst e; exact Val.leaf (by exact trivial) _
        rcases List.mem_cons.1 hx with e | hx
        · subst e; exact Val.leaf (by exact trivial) _
        rcases List.mem_cons.1 hx with e | hx
        · subst e; exact Val.pair _ (k1.none h1) (k9.at (k1.bag.free h1).1 upd_same) (by exact trivial) (by exact trivial)
        rcases List.mem_cons.1 hx with e | hx
        · subst e; exact Val.pair _ (ka.none h2) (k8.at (ka.bag.free h2).1 upd_same) (by exact trivial) (by exact trivial)
        rcases List.mem_cons.1 hx with e | hx
        · subst e
          refine Val.le (n := 2) (Val.tup (kd.none h5) (k5.at (kd.bag.free h5).1 upd_same) (by show 2 ≤ 1000; decide) fun y hy => ?_) (by have := hn dz; omega)
          rcases List.mem_cons.1 hy with e | hy
          · subst e; exact Val.pair _ (kb.none h3) (k7.at (kb.bag.free h3).1 upd_same) (by exact trivial) (by exact trivial)
          rcases List.mem_cons.1 hy with e | hy
          · subst e; exact Val.pair _ (kc.none h4) (k6.at (kc.bag.free h4).1 upd_same) (by exact trivial) (by exact trivial)
          cases hy
        cases hx
      · refine ⟨by show 2 ≤ sizeLine; decide, fun t3 h3 => ⟨by show 6 ≤ sizeLine; decide, fun l hl => ?_⟩⟩
        have kc := kb.new (o := .tup [.int 0, .int 1]) h3
        refine ⟨b, c, l, _, rfl, (kc.bag.free hl).1, upd_same, Nat.zero_lt_succ _, by show 6 < 1000; decide, ((Kp.refl kc.bag).new hl).bag, fun x H4 hx k4 => ?_⟩
        have k5 := ((Kp.refl kc.bag).new hl).trans k4
        have k6 := ((Kp.refl kb.bag).new h3).trans k5
        have k7 := ((Kp.refl ka.bag).new h2).trans k6
        refine q x H4 ?_ (ka.trans k7)
        rcases List.mem_cons.1 hx with e | hx
        · subst e; exact Val.leaf (by exact trivial) _
        rcases List.mem_cons.1 hx with e | hx
        · subst e; exact Val.leaf (by exact trivial) _
        rcases List.mem_cons.1 hx with e | hx
        · subst e; exact Val.leaf (by exact trivial) _
        rcases List.mem_cons.1 hx with e | hx
        · subst e; exact Val.pair _ (k1.none h1) (k7.at (k1.bag.free h1).1 upd_same) (by exact trivial) (by exact trivial)
        rcases List.mem_cons.1 hx with e | hx
        · subst e; exact Val.pair _ (ka.none h2) (k6.at (ka.bag.free h2).1 upd_same) (by exact trivial) (by exact trivial)
        rcases List.mem_cons.1 hx with e | hx
        · subst e; exact Val.pair _ (kb.none h3) (k5.at (kb.bag.free h3).1 upd_same) (by exact trivial) (by exact trivial)
        cases hx
    refine ⟨_, rfl, b, c, 4, rfl, by decide, by decide, k1.bag, fun m H2 m0 m1 k2 => ⟨m, rfl, by omega, by omega, fun D hD => ?_⟩⟩
    obtain ⟨hDb, hDc⟩ := k2.bag.free hD
    have k3 := k1.trans k2
    refine lc_range (n := m.toNat) (fun i H' => ∃ acc : List V, H' D = some (.lst acc) ∧ acc.length = i ∧ (∀ x ∈ acc, Val H' (fun a => a ≠ b ∧ a ≠ D ∧ H a = none) n x) ∧ Kp b c H H')
      ⟨[], upd_same, rfl, (fun x hx => by cases hx), k3.new hD⟩ (fun i H' hi h => ?_) (fun H' h => ?_)
    · obtain ⟨acc, ha, hl, hv, k4⟩ := h
      refine ⟨rfl, _, rfl, _, rfl, _, _, rfl, rfl, b, c, rfl, k4.bag, fun v H5 hv5 k5 => ?_⟩
      have ha5 := k5.at hDb ha
      refine ⟨acc, ha5, by rw [sizeLine_eq]; omega, acc ++ [v], upd_same, ?_, fun x hx => ?_, ?_⟩
      · rw [List.length_append, hl]
        rfl
      · rcases List.mem_append.1 hx with hx | hx
        · exact Val.keep (fun a o z e => by rw [upd_ne z.2.1]; exact k5.at z.1 e) (fun a z => z) (hv x hx)
        · rw [List.mem_singleton.mp hx]
          have nd : ∀ a, Fre H' a → a ≠ D := fun a z e => by
            have z2 : H' D = none := e ▸ z
            rw [z2] at ha
            cases ha
          exact Val.keep (fun a o z e => by rw [upd_ne (nd a z)]; exact e) (fun a z => ⟨(k4.bag.free z).1, nd a z, k4.none z⟩) hv5
      · exact (k4.trans k5).put (k3.none hD) hDb hDc
    · obtain ⟨acc, ha, hl, hv, k4⟩ := h
      have hv' : ∀ x ∈ acc, Val H' (Fre H) n x := fun x hx => Val.keep (fun a o _ e => e) (fun a z => z.2.2) (hv x hx)
      refine ⟨_, rfl, _, _, rfl, rfl, _, rfl, ite2 (fun c5 => ?_) (fun c5 => ?_)⟩
      · exact ⟨_, rfl, q _ _ (Val.lst (k3.none hD) ha (by omega) hv') k4⟩
      · refine ⟨_, rfl, D, acc, rfl, .inl ⟨SqL.of ha, fun t ht => ?_⟩⟩
        refine q _ _ (Val.tup (k4.none ht) upd_same (by omega) fun x hx => Val.keep (fun a o _ e => ?_) (fun a z => z) (hv' x hx)) (k4.new ht)
        rw [upd_ne (ne_of_none e ht)]
        exact e
theorem ok_value2 (F : Fun K "_law_value" "_law_value" s_value f fd) (T : Blt mg) (D_draw : Df P w K mg base 1 "_law_draw" fD ["_law_bag_here", "_law_many"] spDraw)
    (D_of : Df P w K mg base 2 "_law_of" fO ["_law_bag_here", "_law_things"] spOf) : FnOk P w K mg base CX0 3 f fd ["_law_bag_here", "_law_deep"] (spValue 2 1) := by
  obtain ⟨fdD, G_draw, B_draw⟩ := D_draw.ok
  obtain ⟨fdO, G_of, B_of⟩ := D_of.ok
  refine F.ok sc_value (fun vs H Q E h => ?_) (fun cdv A outer s H vs Q E hr h => ?_)
  · obtain ⟨b, c, rfl, _⟩ := h
    rfl
  · obtain ⟨b, c, rfl, B0, q⟩ := h
    refine ⟨_, (pss_cons (ps_set (i := 2) sc_value.nd rfl (.inl rfl) (pe_call G_draw (hr.mono (by decide)) (by rfl) D_draw.g D_draw.kp B_draw .nil pass0 (pa_cons (pv 0) (pa_cons (pe_ifExp (pt_cmpR op_lt (pv 1) pe_int (nomark _)) pe_int pe_int) pa_nil))))
      (pss_cons (ps_if (pt_cmpR op_lt (pv 2) pe_int (nomark _))
      (pss_one (ps_ret (pe_call G_of (hr.mono (by decide)) (by rfl) D_of.g D_of.kp B_of .nil pass0 (pa_cons (pv 0) (pa_cons (pe_lst (pa_cons pe_int (pa_cons pe_int (pa_cons (pe_un un_neg pe_int) (pa_cons (pe_call G_draw (hr.mono (by decide)) (by rfl) D_draw.g D_draw.kp B_draw .nil pass0 (pa_cons (pv 0) (pa_cons (pe_op op_pow pe_int pe_int) pa_nil))) (pa_cons (pe_un un_neg (pe_call G_draw (hr.mono (by decide)) (by rfl) D_draw.g D_draw.kp B_draw .nil pass0 (pa_cons (pv 0) (pa_cons pe_int pa_nil)))) pa_nil)))))) pa_nil))))) pss_nil)
      (pss_cons (ps_if (pt_cmpR op_lt (pv 2) pe_int (nomark _))
      (pss_one (ps_ret (pe_call G_of (hr.mono (by decide)) (by rfl) D_of.g D_of.kp B_of .nil pass0 (pa_cons (pv 0) (pa_cons (pe_lst (pa_cons pe_str (pa_cons pe_str (pa_cons pe_str (pa_cons pe_str (pa_cons pe_str (pa_cons pe_str (pa_cons (pe_callTy call_str_int (by rfl) T.n_str (by decide +kernel) (pa_cons (pe_call G_draw (hr.mono (by decide)) (by rfl) D_draw.g D_draw.kp B_draw .nil pass0 (pa_cons (pv 0) (pa_cons pe_int pa_nil))) pa_nil)) pa_nil)))))))) pa_nil))))) pss_nil)
      (pss_cons (ps_if (pt_cmpR op_lt (pv 2) pe_int (nomark _))
      (pss_one (ps_ret (pe_call G_of (hr.mono (by decide)) (by rfl) D_of.g D_of.kp B_of .nil pass0 (pa_cons (pv 0) (pa_cons (pe_lst (pa_cons pe_non (pa_cons pe_bl (pa_cons pe_bl (pa_cons (pe_tup (pa_cons pe_int (pa_cons pe_int pa_nil))) (pa_cons (pe_tup (pa_cons (pe_un un_neg pe_int) (pa_cons pe_int pa_nil))) (pa_cons (pe_ifExp (pt_cmpR op_eq (pv 1) pe_int (nomark _)) (pe_tup (pa_cons (pe_tup (pa_cons pe_int (pa_cons pe_int pa_nil))) (pa_cons (pe_tup (pa_cons pe_int (pa_cons pe_int pa_nil))) pa_nil))) (pe_tup (pa_cons pe_int (pa_cons pe_int pa_nil)))) pa_nil))))))) pa_nil))))) pss_nil)
      pss_never)))), ?_⟩
    refine ⟨_, rfl, _, rfl, _, _, rfl, rfl, _, rfl, ?_⟩
    refine iteF ⟨b, c, 8, rfl, by decide, by decide, B0, fun way H1 w0 w1 k1 => ?_⟩
    refine ⟨_, rfl, _, _, rfl, rfl, _, rfl, ite2 (fun c1 => ?_) (fun c1 => ?_)⟩
    · refine ⟨_, rfl, 1, rfl, _, rfl, _, _, rfl, rfl, ⟨by decide, by decide, by decide⟩, b, c, _, rfl, by decide, by decide, k1.bag, fun i H2 i0 i1 k2 => ?_⟩
      refine ⟨_, rfl, b, c, 4000, rfl, by decide, by decide, k2.bag, fun j H3 j0 j1 k3 => ⟨j, rfl, by show 5 ≤ sizeLine; decide, fun l hl => ?_⟩⟩
      refine ⟨b, c, l, _, rfl, (k3.bag.free hl).1, upd_same, Nat.zero_lt_succ _, by show 5 < 1000; decide, ((Kp.refl k3.bag).new hl).bag, fun x H4 hx k4 => ?_⟩
      exact q x H4 (Val.leaf (leaves rfl x hx) _) (k1.trans (k2.trans ((k3.new hl).trans k4)))
    refine ⟨_, rfl, _, _, rfl, rfl, _, rfl, ite2 (fun c2 => ?_) (fun c2 => ?_)⟩
    · refine ⟨_, rfl, _, rfl, b, c, 1000, rfl, by decide, by decide, k1.bag, fun i H2 i0 i1 k2 => ⟨i, rfl, small_log i0 (by omega), by show 7 ≤ sizeLine; decide, fun l hl => ?_⟩⟩
      refine ⟨b, c, l, _, rfl, (k2.bag.free hl).1, upd_same, Nat.zero_lt_succ _, by show 7 < 1000; decide, ((Kp.refl k2.bag).new hl).bag, fun x H4 hx k4 => ?_⟩
      exact q x H4 (Val.leaf (leaves rfl x hx) _) (k1.trans ((k2.new hl).trans k4))
    refine ⟨_, rfl, _, _, rfl, rfl, _, rfl, ite2 (fun c3 => ?_) (fun c3 => ?_)⟩
    · refine ⟨_, rfl, by show 2 ≤ sizeLine; decide, fun t1 h1 => ⟨3, rfl, by show 2 ≤ sizeLine; decide, fun t2 h2 => ⟨_, rfl, rfl, _, rfl, ?_⟩⟩⟩
      have ka := k1.new (o := .tup [.int 1, .int 2]) h1
      have kb := ka.new (o := .tup [.int (-3), .int 4]) h2
      refine ite2 (fun c4 => ?_) (fun c4 => ?_)
      · exact absurd (V.int.inj (of_decide_eq_true c4)) (by decide)
      · refine ⟨by show 2 ≤ sizeLine; decide, fun t3 h3 => ⟨by show 6 ≤ sizeLine; decide, fun l hl => ?_⟩⟩
        have kc := kb.new (o := .tup [.int 0, .int 1]) h3
        refine ⟨b, c, l, _, rfl, (kc.bag.free hl).1, upd_same, Nat.zero_lt_succ _, by show 6 < 1000; decide, ((Kp.refl kc.bag).new hl).bag, fun x H4 hx k4 => ?_⟩
        have k5 := ((Kp.refl kc.bag).new hl).trans k4
        have k6 := ((Kp.refl kb.bag).new h3).trans k5
        have k7 := ((Kp.refl ka.bag).new h2).trans k6
        refine q x H4 ?_ (ka.trans k7)
        rcases List.mem_cons.1 hx with e | hx
        · subst e; exact Val.leaf (by exact trivial) _
        rcases List.mem_cons.1 hx with e | hx
        · subst e; exact Val.leaf (by exact trivial) _
        rcases List.mem_cons.1 hx with e | hx
        · subst e; exact Val.leaf (by exact trivial) _
        rcases List.mem_cons.1 hx with e | hx
        · subst e; exact Val.pair _ (k1.none h1) (k7.at (k1.bag.free h1).1 upd_same) (by exact trivial) (by exact trivial)
        rcases List.mem_cons.1 hx with e | hx
        · subst e; exact Val.pair _ (ka.none h2) (k6.at (ka.bag.free h2).1 upd_same) (by exact trivial) (by exact trivial)
        rcases List.mem_cons.1 hx with e | hx
        · subst e; exact Val.pair _ (kb.none h3) (k5.at (kb.bag.free h3).1 upd_same) (by exact trivial) (by exact trivial)
        cases hx
    · exact absurd (decide_eq_true w1) c3
end
end Ko

namespace Ko
open PySem L2 PySem.Spec PyProof.Rows
open C8 (pss_cut tCut)
abbrev s_kind : Stmt := top 40
theorem sc_kind : FnScope ["_law_bag_here", "_law_kind_here", "_law_k"] ["_law_bag_here", "_law_kind_here"] (defScope s_kind) := ⟨rfl, rfl, rfl, by decide +kernel, rfl, by decide +kernel, by decide +kernel⟩

/-- a pair of ints -/
def spRatio : Sp := fun vs H Q _ => ∃ (b c : Addr), vs = [.ref b, .str "ratio"] ∧ Bag H b c ∧ ∀ v H', Val H' (Fre H) 1 v → Kp b c H H' → Q v H'
/-- a value of a kind -/
def spKind : Sp := fun vs H Q _ => ∃ (b c : Addr) (z : Str), vs = [.ref b, .str z] ∧ Bag H b c ∧ ∀ v H', Val H' (Fre H) 3 v → Kp b c H H' → Q v H'
section
variable {P : Program} {w : World} {K : PySem.W.Frag} {mg : Str → Option Value} {base : Heap} {f fD fO fV : Addr} {fd : FuncData}
theorem ok_ratio (F : Fun K "_law_kind" "_law_kind" s_kind f fd) (T : Blt mg) (D_draw : Df P w K mg base 1 "_law_draw" fD ["_law_bag_here", "_law_many"] spDraw)
    (D_of : Df P w K mg base 2 "_law_of" fO ["_law_bag_here", "_law_things"] spOf) : FnOk P w K mg base CX0 3 f fd ["_law_bag_here", "_law_kind_here"] spRatio := by
  obtain ⟨fdD, G_draw, B_draw⟩ := D_draw.ok
  obtain ⟨fdO, G_of, B_of⟩ := D_of.ok
  refine F.ok sc_kind (fun vs H Q E h => ?_) (fun cdv A outer s H vs Q E hr h => ?_)
  · obtain ⟨b, c, rfl, _⟩ := h
    rfl
  · obtain ⟨b, c, rfl, B0, q⟩ := h
    refine ⟨_, (pss_cons (ps_if (pt_cmpR op_eq (pv 1) pe_str (nomark _))
      (pss_one (ps_ret (pe_call G_of (hr.mono (by decide)) (by rfl) D_of.g D_of.kp B_of .nil pass0 (pa_cons (pv 0) (pa_cons (pe_lst (pa_cons pe_str (pa_cons pe_str (pa_cons pe_str (pa_cons pe_str (pa_cons pe_str (pa_cons pe_str (pa_cons pe_str (pa_cons (pe_callTy call_str_int (by rfl) T.n_str (by decide +kernel) (pa_cons (pe_call G_draw (hr.mono (by decide)) (by rfl) D_draw.g D_draw.kp B_draw .nil pass0 (pa_cons (pv 0) (pa_cons pe_int pa_nil))) pa_nil)) pa_nil))))))))) pa_nil))))) pss_nil)
      (pss_cons (ps_if (pt_cmpR op_eq (pv 1) pe_str (nomark _))
      (pss_one (ps_ret (pe_call G_of (hr.mono (by decide)) (by rfl) D_of.g D_of.kp B_of .nil pass0 (pa_cons (pv 0) (pa_cons (pe_lst (pa_cons pe_int (pa_cons pe_int (pa_cons pe_int (pa_cons (pe_un un_neg pe_int) (pa_cons (pe_call G_draw (hr.mono (by decide)) (by rfl) D_draw.g D_draw.kp B_draw .nil pass0 (pa_cons (pv 0) (pa_cons pe_int pa_nil))) (pa_cons (pe_call G_draw (hr.mono (by decide)) (by rfl) D_draw.g D_draw.kp B_draw .nil pass0 (pa_cons (pv 0) (pa_cons pe_int pa_nil))) pa_nil))))))) pa_nil))))) pss_nil)
      (pss_cons (ps_if (pt_cmpR op_eq (pv 1) pe_str (nomark _))
      (pss_one (ps_ret (pe_lc (own := [("_law_k", 2)]) (g := gName 2) (tt := tYes) rfl sc_kind.nd (pi_range1 (by rfl) T.n_range (pa_cons (pe_call G_draw (hr.mono (by decide)) (by rfl) D_draw.g D_draw.kp B_draw .nil pass0 (pa_cons (pv 0) (pa_cons pe_int pa_nil))) pa_nil)) (blkOk_by (N := ["_law_bag_here", "_law_kind_here", "_law_k"]) (sc := defScope s_kind) (by decide +kernel)) (fun _ _ _ _ _ => pg_name (i := 2) sc_kind.nd rfl (.inl rfl)) (fun _ _ _ _ _ => pts_nil) (fun _ _ _ _ _ => (pe_call G_of (hr.mono (by decide)) (by rfl) D_of.g D_of.kp B_of .nil pass0 (pa_cons (pv 0) (pa_cons (pe_lst (pa_cons (pe_call G_draw (hr.mono (by decide)) (by rfl) D_draw.g D_draw.kp B_draw .nil pass0 (pa_cons (pv 0) (pa_cons pe_int pa_nil))) (pa_cons (pe_tup (pa_cons (pe_call G_draw (hr.mono (by decide)) (by rfl) D_draw.g D_draw.kp B_draw .nil pass0 (pa_cons (pv 0) (pa_cons pe_int pa_nil))) (pa_cons pe_int (pa_cons (pe_un un_neg pe_int) pa_nil)))) pa_nil))) pa_nil))))))) pss_nil)
      (pss_cons (ps_if (pt_cmpR op_eq (pv 1) pe_str (nomark _))
      (pss_one (ps_ret (pe_call G_of (hr.mono (by decide)) (by rfl) D_of.g D_of.kp B_of .nil pass0 (pa_cons (pv 0) (pa_cons (pe_lst (pa_cons (pe_tup (pa_cons pe_int (pa_cons pe_int pa_nil))) (pa_cons (pe_tup (pa_cons (pe_un un_neg pe_int) (pa_cons pe_int pa_nil))) (pa_cons (pe_tup (pa_cons pe_int (pa_cons pe_int pa_nil))) (pa_cons (pe_tup (pa_cons (pe_call G_draw (hr.mono (by decide)) (by rfl) D_draw.g D_draw.kp B_draw .nil pass0 (pa_cons (pv 0) (pa_cons pe_int pa_nil))) (pa_cons pe_int pa_nil))) pa_nil))))) pa_nil))))) pss_nil)
      pss_never)))), ?_⟩
    refine ⟨_, rfl, rfl, _, rfl, iteF ⟨_, rfl, rfl, _, rfl, iteF ⟨_, rfl, rfl, _, rfl, iteF ⟨_, rfl, rfl, _, rfl, iteT ?_⟩⟩⟩⟩
    refine ⟨_, rfl, by show 2 ≤ sizeLine; decide, fun t1 h1 => ⟨7, rfl, by show 2 ≤ sizeLine; decide, fun t2 h2 => ⟨by show 2 ≤ sizeLine; decide, fun t3 h3 => ?_⟩⟩⟩
    have ka := (Kp.refl B0).new (o := .tup [.int 1, .int 2]) h1
    have kb := ka.new (o := .tup [.int (-7), .int 3]) h2
    have kc := kb.new (o := .tup [.int 0, .int 1]) h3
    refine ⟨_, rfl, b, c, 1000, rfl, by decide, by decide, kc.bag, fun i H4 i0 i1 k4 => ⟨by show 2 ≤ sizeLine; decide, fun t4 h4 => ⟨by show 4 ≤ sizeLine; decide, fun l hl => ?_⟩⟩⟩
    have k5 := k4.new (o := .tup [.int i, .int 1]) h4
    refine ⟨b, c, l, _, rfl, (k5.bag.free hl).1, upd_same, Nat.zero_lt_succ _, by show 4 < 1000; decide, ((Kp.refl k5.bag).new hl).bag, fun x H6 hx k6 => ?_⟩
    have k7 := ((Kp.refl k5.bag).new hl).trans k6
    have k8 := k5.trans k7
    have k8b := ((Kp.refl k4.bag).new h4).trans k7
    have k9 := ((Kp.refl kb.bag).new h3).trans k8
    have k10 := ((Kp.refl ka.bag).new h2).trans k9
    refine q x H6 ?_ (kc.trans k8)
    rcases List.mem_cons.1 hx with e | hx
    · subst e; exact Val.pair _ h1 (k10.at (B0.free h1).1 upd_same) (by exact trivial) (by exact trivial)
    rcases List.mem_cons.1 hx with e | hx
    · subst e; exact Val.pair _ (ka.none h2) (k9.at (ka.bag.free h2).1 upd_same) (by exact trivial) (by exact trivial)
    rcases List.mem_cons.1 hx with e | hx
    · subst e; exact Val.pair _ (kb.none h3) (k8.at (kb.bag.free h3).1 upd_same) (by exact trivial) (by exact trivial)
    rcases List.mem_cons.1 hx with e | hx
    · subst e; exact Val.pair _ ((kc.trans k4).none h4) (k7.at (k4.bag.free h4).1 upd_same) (by exact trivial) (by exact trivial)
    cases hx

theorem ok_kind (F : Fun K "_law_kind" "_law_kind" s_kind f fd) (T : Blt mg) (D_draw : Df P w K mg base 1 "_law_draw" fD ["_law_bag_here", "_law_many"] spDraw)
    (D_of : Df P w K mg base 2 "_law_of" fO ["_law_bag_here", "_law_things"] spOf) (D_kind : Df P w K mg base 3 "_law_kind" f ["_law_bag_here", "_law_kind_here"] spRatio)
    (D_value : Df P w K mg base 5 "_law_value" fV ["_law_bag_here", "_law_deep"] (spValue 0 3)) : FnOk P w K mg base CX0 6 f fd ["_law_bag_here", "_law_kind_here"] spKind := by
  obtain ⟨fdD, G_draw, B_draw⟩ := D_draw.ok
  obtain ⟨fdO, G_of, B_of⟩ := D_of.ok
  obtain ⟨fdK, G_kind, B_kind⟩ := D_kind.ok
  obtain ⟨fdV, G_value, B_value⟩ := D_value.ok
  refine F.ok sc_kind (fun vs H Q E h => ?_) (fun cdv A outer s H vs Q E hr h => ?_)
  · obtain ⟨b, c, z, rfl, _⟩ := h
    rfl
  · obtain ⟨b, c, z, rfl, B0, q⟩ := h
    refine ⟨_, (pss_cons (ps_if (pt_cmpR op_eq (pv 1) pe_str (nomark _))
      (pss_one (ps_ret (pe_call G_of (hr.mono (by decide)) (by rfl) D_of.g D_of.kp B_of .nil pass0 (pa_cons (pv 0) (pa_cons (pe_lst (pa_cons pe_str (pa_cons pe_str (pa_cons pe_str (pa_cons pe_str (pa_cons pe_str (pa_cons pe_str (pa_cons pe_str (pa_cons (pe_callTy call_str_int (by rfl) T.n_str (by decide +kernel) (pa_cons (pe_call G_draw (hr.mono (by decide)) (by rfl) D_draw.g D_draw.kp B_draw .nil pass0 (pa_cons (pv 0) (pa_cons pe_int pa_nil))) pa_nil)) pa_nil))))))))) pa_nil))))) pss_nil)
      (pss_cons (ps_if (pt_cmpR op_eq (pv 1) pe_str (nomark _))
      (pss_one (ps_ret (pe_call G_of (hr.mono (by decide)) (by rfl) D_of.g D_of.kp B_of .nil pass0 (pa_cons (pv 0) (pa_cons (pe_lst (pa_cons pe_int (pa_cons pe_int (pa_cons pe_int (pa_cons (pe_un un_neg pe_int) (pa_cons (pe_call G_draw (hr.mono (by decide)) (by rfl) D_draw.g D_draw.kp B_draw .nil pass0 (pa_cons (pv 0) (pa_cons pe_int pa_nil))) (pa_cons (pe_call G_draw (hr.mono (by decide)) (by rfl) D_draw.g D_draw.kp B_draw .nil pass0 (pa_cons (pv 0) (pa_cons pe_int pa_nil))) pa_nil))))))) pa_nil))))) pss_nil)
      (pss_cons (ps_if (pt_cmpR op_eq (pv 1) pe_str (nomark _))
      (pss_one (ps_ret (pe_lc (own := [("_law_k", 2)]) (g := gName 2) (tt := tYes) rfl sc_kind.nd (pi_range1 (by rfl) T.n_range (pa_cons (pe_call G_draw (hr.mono (by decide)) (by rfl) D_draw.g D_draw.kp B_draw .nil pass0 (pa_cons (pv 0) (pa_cons pe_int pa_nil))) pa_nil)) (blkOk_by (N := ["_law_bag_here", "_law_kind_here", "_law_k"]) (sc := defScope s_kind) (by decide +kernel)) (fun _ _ _ _ _ => pg_name (i := 2) sc_kind.nd rfl (.inl rfl)) (fun _ _ _ _ _ => pts_nil) (fun _ _ _ _ _ => (pe_call G_of (hr.mono (by decide)) (by rfl) D_of.g D_of.kp B_of .nil pass0 (pa_cons (pv 0) (pa_cons (pe_lst (pa_cons (pe_call G_draw (hr.mono (by decide)) (by rfl) D_draw.g D_draw.kp B_draw .nil pass0 (pa_cons (pv 0) (pa_cons pe_int pa_nil))) (pa_cons (pe_tup (pa_cons (pe_call G_draw (hr.mono (by decide)) (by rfl) D_draw.g D_draw.kp B_draw .nil pass0 (pa_cons (pv 0) (pa_cons pe_int pa_nil))) (pa_cons pe_int (pa_cons (pe_un un_neg pe_int) pa_nil)))) pa_nil))) pa_nil))))))) pss_nil)
      (pss_cons (ps_if (pt_cmpR op_eq (pv 1) pe_str (nomark _))
      (pss_one (ps_ret (pe_call G_of (hr.mono (by decide)) (by rfl) D_of.g D_of.kp B_of .nil pass0 (pa_cons (pv 0) (pa_cons (pe_lst (pa_cons (pe_tup (pa_cons pe_int (pa_cons pe_int pa_nil))) (pa_cons (pe_tup (pa_cons (pe_un un_neg pe_int) (pa_cons pe_int pa_nil))) (pa_cons (pe_tup (pa_cons pe_int (pa_cons pe_int pa_nil))) (pa_cons (pe_tup (pa_cons (pe_call G_draw (hr.mono (by decide)) (by rfl) D_draw.g D_draw.kp B_draw .nil pass0 (pa_cons (pv 0) (pa_cons pe_int pa_nil))) (pa_cons pe_int pa_nil))) pa_nil))))) pa_nil))))) pss_nil)
      (pss_cons (ps_if (pt_cmpR op_eq (pv 1) pe_str (nomark _))
      (pss_one (ps_ret (pe_tup (pa_cons (pe_call G_kind (hr.mono (by decide)) (by rfl) D_kind.g D_kind.kp B_kind .nil pass0 (pa_cons (pv 0) (pa_cons pe_str pa_nil))) (pa_cons (pe_call G_kind (hr.mono (by decide)) (by rfl) D_kind.g D_kind.kp B_kind .nil pass0 (pa_cons (pv 0) (pa_cons pe_str pa_nil))) pa_nil))))) pss_nil)
      (pss_one (ps_ret (pe_ifExp (pt_cmpR op_eq (pv 1) pe_str (nomark _)) (pe_tup (pa_cons (pe_call G_draw (hr.mono (by decide)) (by rfl) D_draw.g D_draw.kp B_draw .nil pass0 (pa_cons (pv 0) (pa_cons pe_int pa_nil))) (pa_cons pe_int pa_nil))) (pe_call G_value (hr.mono (by decide)) (by rfl) D_value.g D_value.kp B_value .nil pass0 (pa_cons (pv 0) (pa_cons pe_int pa_nil))))))))))), ?_⟩
    refine ⟨_, rfl, rfl, _, rfl, ite2 (fun c1 => ?_) (fun c1 => ?_)⟩
    · -- a word
      refine ⟨_, rfl, _, rfl, b, c, 1000, rfl, by decide, by decide, B0, fun i H2 i0 i1 k2 => ⟨i, rfl, small_log i0 (by omega), by show 8 ≤ sizeLine; decide, fun l hl => ?_⟩⟩
      refine ⟨b, c, l, _, rfl, (k2.bag.free hl).1, upd_same, Nat.zero_lt_succ _, by show 8 < 1000; decide, ((Kp.refl k2.bag).new hl).bag, fun x H4 hx k4 => ?_⟩
      exact q x H4 (Val.leaf (leaves rfl x hx) _) ((k2.new hl).trans k4)
    refine ⟨_, rfl, rfl, _, rfl, ite2 (fun c2 => ?_) (fun c2 => ?_)⟩
    · -- a count
      refine ⟨_, rfl, 1, rfl, _, rfl, b, c, 9, rfl, by decide, by decide, B0, fun i H2 i0 i1 k2 => ?_⟩
      refine ⟨_, rfl, b, c, 4000, rfl, by decide, by decide, k2.bag, fun j H3 j0 j1 k3 => ⟨by show 6 ≤ sizeLine; decide, fun l hl => ?_⟩⟩
      refine ⟨b, c, l, _, rfl, (k3.bag.free hl).1, upd_same, Nat.zero_lt_succ _, by show 6 < 1000; decide, ((Kp.refl k3.bag).new hl).bag, fun x H4 hx k4 => ?_⟩
      exact q x H4 (Val.leaf (leaves rfl x hx) _) (k2.trans ((k3.new hl).trans k4))
    refine ⟨_, rfl, rfl, _, rfl, ite2 (fun c3 => ?_) (fun c3 => ?_)⟩
    · -- a list
      refine ⟨_, rfl, b, c, 4, rfl, by decide, by decide, B0, fun m H2 m0 m1 k2 => ⟨m, rfl, by omega, by omega, fun D hD => ?_⟩⟩
      obtain ⟨hDb, hDc⟩ := k2.bag.free hD
      refine lc_range (n := m.toNat) (fun i H' => ∃ acc : List V, H' D = some (.lst acc) ∧ acc.length = i ∧ (∀ x ∈ acc, Val H' (fun a => a ≠ b ∧ a ≠ D ∧ H a = none) 2 x) ∧ Kp b c H H')
        ⟨[], upd_same, rfl, (fun x hx => by cases hx), k2.new hD⟩ (fun i H' hi h => ?_) (fun H' h => ?_)
      · obtain ⟨acc, ha, hl, hv, k4⟩ := h
        refine ⟨rfl, _, rfl, _, rfl, b, c, 9, rfl, by decide, by decide, k4.bag, fun i1 H5 i10 i11 k5 => ?_⟩
        refine ⟨_, rfl, b, c, 9, rfl, by decide, by decide, k5.bag, fun i2 H6 i20 i21 k6 => ⟨1, rfl, by show 3 ≤ sizeLine; decide, fun t ht => ⟨by show 2 ≤ sizeLine; decide, fun l hl2 => ?_⟩⟩⟩
        have k56 := k5.trans k6
        have k7 := (Kp.refl k6.bag).new (o := .tup [.int i2, .int 9, .int (-1)]) ht
        refine ⟨b, c, l, _, rfl, (k7.bag.free hl2).1, upd_same, Nat.zero_lt_succ _, by show 2 < 1000; decide, ((Kp.refl k7.bag).new hl2).bag, fun v H8 hx8 k8 => ?_⟩
        have k9 := ((Kp.refl k7.bag).new hl2).trans k8
        have k10 := k56.trans (k7.trans k9)
        have hv5 : Val H8 (Fre H') 2 v := by
          rcases List.mem_cons.1 hx8 with e | hx8
          · subst e
            exact Val.leaf (by exact trivial) _
          rcases List.mem_cons.1 hx8 with e | hx8
          · subst e
            exact Val.tup (k56.none ht) (k9.at (k6.bag.free ht).1 upd_same) (by show 3 ≤ 1000; decide) fun y hy => Val.leaf (leaves rfl y hy) 1
          cases hx8
        have ha5 := k10.at hDb ha
        refine ⟨acc, ha5, by rw [sizeLine_eq]; omega, acc ++ [v], upd_same, ?_, fun x hx => ?_, ?_⟩
        · rw [List.length_append, hl]
          rfl
        · rcases List.mem_append.1 hx with hx | hx
          · exact Val.keep (fun a o z e => by rw [upd_ne z.2.1]; exact k10.at z.1 e) (fun a z => z) (hv x hx)
          · rw [List.mem_singleton.mp hx]
            have nd : ∀ a, Fre H' a → a ≠ D := fun a z e => by
              have z2 : H' D = none := e ▸ z
              rw [z2] at ha
              cases ha
            exact Val.keep (fun a o z e => by rw [upd_ne (nd a z)]; exact e) (fun a z => ⟨(k4.bag.free z).1, nd a z, k4.none z⟩) hv5
        · exact (k4.trans k10).put (k2.none hD) hDb hDc
      · obtain ⟨acc, ha, hl, hv, k4⟩ := h
        have hv' : ∀ x ∈ acc, Val H' (Fre H) 2 x := fun x hx => Val.keep (fun a o _ e => e) (fun a z => z.2.2) (hv x hx)
        exact q _ _ (Val.lst (k2.none hD) ha (by omega) hv') k4
    refine ⟨_, rfl, rfl, _, rfl, ite2 (fun c4 => ?_) (fun c4 => ?_)⟩
    · refine ⟨_, rfl, by show 2 ≤ sizeLine; decide, fun t1 h1 => ⟨7, rfl, by show 2 ≤ sizeLine; decide, fun t2 h2 => ⟨by show 2 ≤ sizeLine; decide, fun t3 h3 => ?_⟩⟩⟩
      have ka := (Kp.refl B0).new (o := .tup [.int 1, .int 2]) h1
      have kb := ka.new (o := .tup [.int (-7), .int 3]) h2
      have kc := kb.new (o := .tup [.int 0, .int 1]) h3
      refine ⟨_, rfl, b, c, 1000, rfl, by decide, by decide, kc.bag, fun i H4 i0 i1 k4 => ⟨by show 2 ≤ sizeLine; decide, fun t4 h4 => ⟨by show 4 ≤ sizeLine; decide, fun l hl => ?_⟩⟩⟩
      have k5 := k4.new (o := .tup [.int i, .int 1]) h4
      refine ⟨b, c, l, _, rfl, (k5.bag.free hl).1, upd_same, Nat.zero_lt_succ _, by show 4 < 1000; decide, ((Kp.refl k5.bag).new hl).bag, fun x H6 hx k6 => ?_⟩
      have k7 := ((Kp.refl k5.bag).new hl).trans k6
      have k8 := k5.trans k7
      have k8b := ((Kp.refl k4.bag).new h4).trans k7
      have k9 := ((Kp.refl kb.bag).new h3).trans k8
      have k10 := ((Kp.refl ka.bag).new h2).trans k9
      refine q x H6 ?_ (kc.trans k8)
      rcases List.mem_cons.1 hx with e | hx
      · subst e; exact Val.pair _ h1 (k10.at (B0.free h1).1 upd_same) (by exact trivial) (by exact trivial)
      rcases List.mem_cons.1 hx with e | hx
      · subst e; exact Val.pair _ (ka.none h2) (k9.at (ka.bag.free h2).1 upd_same) (by exact trivial) (by exact trivial)
      rcases List.mem_cons.1 hx with e | hx
      · subst e; exact Val.pair _ (kb.none h3) (k8.at (kb.bag.free h3).1 upd_same) (by exact trivial) (by exact trivial)
      rcases List.mem_cons.1 hx with e | hx
      · subst e; exact Val.pair _ ((kc.trans k4).none h4) (k7.at (k4.bag.free h4).1 upd_same) (by exact trivial) (by exact trivial)
      cases hx

    refine ⟨_, rfl, rfl, _, rfl, ite2 (fun c5 => ?_) (fun c5 => ?_)⟩
    · -- a spot
      refine ⟨_, rfl, b, c, rfl, B0, fun v1 H1 hv1 k1 => ⟨_, rfl, b, c, rfl, k1.bag, fun v2 H2 hv2 k2 => ⟨by show 2 ≤ sizeLine; decide, fun t ht => ?_⟩⟩⟩
      have k12 := k1.trans k2
      have u1 : Val (upd H2 t (.tup [v1, v2])) (Fre H) 1 v1 := Val.keep (fun a o z e => by
        have e2 := k2.at (B0.free z).1 e
        rw [upd_ne (ne_of_none e2 ht)]
        exact e2) (fun a z => z) hv1
      have u2 : Val (upd H2 t (.tup [v1, v2])) (Fre H) 1 v2 := Val.keep (fun a o z e => by
        rw [upd_ne (ne_of_none e ht)]
        exact e) (fun a z => k1.none z) hv2
      refine q _ _ (Val.le (n := 2) (Val.tup (k12.none ht) upd_same (by show 2 ≤ 1000; decide) fun y hy => ?_) (by decide)) (k12.new ht)
      rcases List.mem_cons.1 hy with e | hy
      · rw [e]
        exact u1
      rcases List.mem_cons.1 hy with e | hy
      · rw [e]
        exact u2
      cases hy
    refine ⟨_, rfl, rfl, _, rfl, ite2 (fun c6 => ?_) (fun c6 => ?_)⟩
    · refine ⟨_, rfl, b, c, 9, rfl, by decide, by decide, B0, fun i H2 i0 i1 k2 => ⟨by show 2 ≤ sizeLine; decide, fun t ht => ?_⟩⟩
      exact q _ _ (Val.pair _ (k2.none ht) upd_same (by exact trivial) (by exact trivial)) (k2.new ht)
    · exact ⟨_, rfl, b, c, rfl, B0, q⟩
end
end Ko

namespace Ko
open PySem L2 PySem.Spec PyProof.Rows
abbrev s_kinds : Stmt := top 41
theorem sc_kinds : FnScope ["_law_at", "_law_plain"] ["_law_at"] (defScope s_kinds) := ⟨rfl, rfl, rfl, by decide +kernel, rfl, by decide +kernel, by decide +kernel⟩

/-- how many fields the error with this number has -/
def ar (k : Int) : Nat := if k ∈ [4, 13, 14, 15, 26, 30] then 2 else if k ∈ [5, 9, 10, 20, 22] then 0 else 1
/-- the kinds of the fields: texts in a list -/
def spKinds : Sp := fun vs H Q _ => ∃ k : Int, vs = [.int k] ∧ 0 ≤ k ∧ k < 31 ∧ ∀ (p : Addr) (ks : List Str) (H' : Hp), ks.length = ar k → Same H H' → H' p = some (.lst (ks.map V.str)) → Q (.ref p) H'
theorem noEq {ys : List V} {y : V} {j : Nat} (h : (ys.take j).all (fun z => !eqV z y) = true) (m : Nat) (z : V) (hm : m < j) (hz : ys[m]? = some z) : eqV z y = false := by
  have e : z ∈ ys.take j := List.mem_of_getElem? (i := m) (by rw [List.getElem?_take_of_lt hm]; exact hz)
  have q := List.all_eq_true.mp h z e
  simpa using q
section
variable {P : Program} {w : World} {K : PySem.W.Frag} {mg : Str → Option Value} {base : Heap} {f : Addr} {fd : FuncData}
theorem ok_kinds (F : Fun K "_law_kinds" "_law_kinds" s_kinds f fd) (T : Blt mg) : FnOk P w K mg base CX0 1 f fd ["_law_at"] spKinds := by
  refine F.ok sc_kinds (fun vs H Q E h => ?_) (fun cdv A outer s H vs Q E hr h => ?_)
  · obtain ⟨k, rfl, _⟩ := h
    rfl
  · obtain ⟨k, rfl, k0, k1, q⟩ := h
    refine ⟨_, (pss_cons (ps_set (i := 1) sc_kinds.nd rfl (.inl rfl) (pe_lst (pa_cons pe_str (pa_cons pe_str (pa_cons pe_str (pa_cons pe_str (pa_cons pe_str (pa_cons pe_str (pa_cons pe_str (pa_cons pe_str (pa_cons pe_str (pa_cons pe_str (pa_cons pe_str (pa_cons pe_str (pa_cons pe_str (pa_cons pe_str (pa_cons pe_str (pa_cons pe_str (pa_cons pe_str (pa_cons pe_str (pa_cons pe_str (pa_cons pe_str (pa_cons pe_str (pa_cons pe_str (pa_cons pe_str (pa_cons pe_str (pa_cons pe_str (pa_cons pe_str (pa_cons pe_str (pa_cons pe_str (pa_cons pe_str (pa_cons pe_str (pa_cons pe_str pa_nil)))))))))))))))))))))))))))))))))
      (pss_cons (ps_if (pt_cmpR op_in_seq (pv 0) (pe_lst (pa_cons pe_int (pa_cons pe_int (pa_cons pe_int (pa_cons pe_int (pa_cons pe_int (pa_cons pe_int pa_nil))))))) (by rfl))
      (pss_one (ps_ret (pe_ix ix_list (pe_lst (pa_cons (pe_lst (pa_cons pe_str (pa_cons pe_str pa_nil))) (pa_cons (pe_lst (pa_cons pe_str (pa_cons pe_str pa_nil))) (pa_cons (pe_lst (pa_cons pe_str (pa_cons pe_str pa_nil))) (pa_cons (pe_lst (pa_cons pe_str (pa_cons pe_str pa_nil))) (pa_cons (pe_lst (pa_cons pe_str (pa_cons pe_str pa_nil))) (pa_cons (pe_lst (pa_cons pe_str (pa_cons pe_str pa_nil))) pa_nil))))))) (pe_bm PySem.F.plainAttrs_list PySem.F.slot_list_index PySem.F.type_list_index mt_index (pe_lst (pa_cons pe_int (pa_cons pe_int (pa_cons pe_int (pa_cons pe_int (pa_cons pe_int (pa_cons pe_int pa_nil))))))) (pa_cons (pv 0) pa_nil)) (fun _ _ => rfl)))) pss_nil)
      (pss_one (ps_ret (pe_ifExp (pt_cmpR op_eq (pe_ix ix_list (pv 1) (pv 0) (fun _ _ => rfl)) pe_str (nomark _)) (pe_lst pa_nil) (pe_lst (pa_cons (pe_ix ix_list (pv 1) (pv 0) (fun _ _ => rfl)) pa_nil))))))), ?_⟩
    have hk : k = 0 ∨ k = 1 ∨ k = 2 ∨ k = 3 ∨ k = 4 ∨ k = 5 ∨ k = 6 ∨ k = 7 ∨ k = 8 ∨ k = 9 ∨ k = 10 ∨ k = 11 ∨ k = 12 ∨ k = 13 ∨ k = 14 ∨ k = 15 ∨ k = 16 ∨ k = 17 ∨ k = 18 ∨ k = 19 ∨ k = 20 ∨ k = 21 ∨ k = 22 ∨ k = 23 ∨ k = 24 ∨ k = 25 ∨ k = 26 ∨ k = 27 ∨ k = 28 ∨ k = 29 ∨ k = 30 := by omega
    clear k0 k1
    rcases hk with rfl | rfl | rfl | rfl | rfl | rfl | rfl | rfl | rfl | rfl | rfl | rfl | rfl | rfl | rfl | rfl | rfl | rfl | rfl | rfl | rfl | rfl | rfl | rfl | rfl | rfl | rfl | rfl | rfl | rfl | rfl
    · refine ⟨by show 31 ≤ sizeLine; decide, fun p hp => ⟨_, rfl, by show 6 ≤ sizeLine; decide, fun q1 h1 => ⟨q1, _, rfl, .inl (SqL.of upd_same), rfl, rfl, _, rfl, iteF ?_⟩⟩⟩
      refine ⟨_, rfl, _, rfl, p, _, 0, .str "any", rfl, rfl, SqL.of (by rw [upd_ne (ne_of_none upd_same h1)]; exact upd_same), rfl, rfl, _, rfl, _, rfl, _, rfl, p, _, 0, .str "any", rfl, rfl, SqL.of (by rw [upd_ne (ne_of_none upd_same h1)]; exact upd_same), rfl, by show 1 ≤ sizeLine; decide, fun l hl => ?_⟩
      exact q l ["any"] _ rfl (Same.new (Same.new (Same.new (Same.refl H) hp) h1) hl) upd_same
    · refine ⟨by show 31 ≤ sizeLine; decide, fun p hp => ⟨_, rfl, by show 6 ≤ sizeLine; decide, fun q1 h1 => ⟨q1, _, rfl, .inl (SqL.of upd_same), rfl, rfl, _, rfl, iteF ?_⟩⟩⟩
      refine ⟨_, rfl, _, rfl, p, _, 1, .str "any", rfl, rfl, SqL.of (by rw [upd_ne (ne_of_none upd_same h1)]; exact upd_same), rfl, rfl, _, rfl, _, rfl, _, rfl, p, _, 1, .str "any", rfl, rfl, SqL.of (by rw [upd_ne (ne_of_none upd_same h1)]; exact upd_same), rfl, by show 1 ≤ sizeLine; decide, fun l hl => ?_⟩
      exact q l ["any"] _ rfl (Same.new (Same.new (Same.new (Same.refl H) hp) h1) hl) upd_same
    · refine ⟨by show 31 ≤ sizeLine; decide, fun p hp => ⟨_, rfl, by show 6 ≤ sizeLine; decide, fun q1 h1 => ⟨q1, _, rfl, .inl (SqL.of upd_same), rfl, rfl, _, rfl, iteF ?_⟩⟩⟩
      refine ⟨_, rfl, _, rfl, p, _, 2, .str "any", rfl, rfl, SqL.of (by rw [upd_ne (ne_of_none upd_same h1)]; exact upd_same), rfl, rfl, _, rfl, _, rfl, _, rfl, p, _, 2, .str "any", rfl, rfl, SqL.of (by rw [upd_ne (ne_of_none upd_same h1)]; exact upd_same), rfl, by show 1 ≤ sizeLine; decide, fun l hl => ?_⟩
      exact q l ["any"] _ rfl (Same.new (Same.new (Same.new (Same.refl H) hp) h1) hl) upd_same
    · refine ⟨by show 31 ≤ sizeLine; decide, fun p hp => ⟨_, rfl, by show 6 ≤ sizeLine; decide, fun q1 h1 => ⟨q1, _, rfl, .inl (SqL.of upd_same), rfl, rfl, _, rfl, iteF ?_⟩⟩⟩
      refine ⟨_, rfl, _, rfl, p, _, 3, .str "spot", rfl, rfl, SqL.of (by rw [upd_ne (ne_of_none upd_same h1)]; exact upd_same), rfl, rfl, _, rfl, _, rfl, _, rfl, p, _, 3, .str "spot", rfl, rfl, SqL.of (by rw [upd_ne (ne_of_none upd_same h1)]; exact upd_same), rfl, by show 1 ≤ sizeLine; decide, fun l hl => ?_⟩
      exact q l ["spot"] _ rfl (Same.new (Same.new (Same.new (Same.refl H) hp) h1) hl) upd_same
    · refine ⟨by show 31 ≤ sizeLine; decide, fun p hp => ⟨_, rfl, by show 6 ≤ sizeLine; decide, fun q1 h1 => ⟨q1, _, rfl, .inl (SqL.of upd_same), rfl, rfl, _, rfl, iteT ?_⟩⟩⟩
      refine ⟨by show 2 ≤ sizeLine; decide, fun l1 e1 => ⟨by show 2 ≤ sizeLine; decide, fun l2 e2 => ⟨by show 2 ≤ sizeLine; decide, fun l3 e3 => ⟨by show 2 ≤ sizeLine; decide, fun l4 e4 => ⟨by show 2 ≤ sizeLine; decide, fun l5 e5 => ⟨by show 2 ≤ sizeLine; decide, fun l6 e6 => ⟨by show 6 ≤ sizeLine; decide, fun o eo => ⟨by show 6 ≤ sizeLine; decide, fun q8 e8 => ?_⟩⟩⟩⟩⟩⟩⟩⟩
      refine ⟨.inl ⟨rfl, _, SqL.of upd_same⟩, _, rfl, q8, _, .int 4, 0, .int 4, rfl, rfl, SqL.of upd_same, rfl, rfl, rfl, rfl, noEq rfl, ?_⟩
      refine ⟨o, _, 0, .ref l1, rfl, rfl, SqL.of (by rw [upd_ne (ne_of_none upd_same e8)]; exact upd_same), rfl, ?_⟩
      exact q l1 ["word", "count"] _ rfl (Same.new (Same.new (Same.new (Same.new (Same.new (Same.new (Same.new (Same.new (Same.new (Same.new (Same.refl H) hp) h1) e1) e2) e3) e4) e5) e6) eo) e8) ((Same.new (Same.new (Same.new (Same.new (Same.new (Same.new (Same.new (Same.refl _) e2) e3) e4) e5) e6) eo) e8) _ _ upd_same)
    · refine ⟨by show 31 ≤ sizeLine; decide, fun p hp => ⟨_, rfl, by show 6 ≤ sizeLine; decide, fun q1 h1 => ⟨q1, _, rfl, .inl (SqL.of upd_same), rfl, rfl, _, rfl, iteF ?_⟩⟩⟩
      refine ⟨_, rfl, _, rfl, p, _, 5, .str "", rfl, rfl, SqL.of (by rw [upd_ne (ne_of_none upd_same h1)]; exact upd_same), rfl, rfl, _, rfl, by show 0 ≤ sizeLine; decide, fun l hl => ?_⟩
      exact q l [] _ rfl (Same.new (Same.new (Same.new (Same.refl H) hp) h1) hl) upd_same
    · refine ⟨by show 31 ≤ sizeLine; decide, fun p hp => ⟨_, rfl, by show 6 ≤ sizeLine; decide, fun q1 h1 => ⟨q1, _, rfl, .inl (SqL.of upd_same), rfl, rfl, _, rfl, iteF ?_⟩⟩⟩
      refine ⟨_, rfl, _, rfl, p, _, 6, .str "list", rfl, rfl, SqL.of (by rw [upd_ne (ne_of_none upd_same h1)]; exact upd_same), rfl, rfl, _, rfl, _, rfl, _, rfl, p, _, 6, .str "list", rfl, rfl, SqL.of (by rw [upd_ne (ne_of_none upd_same h1)]; exact upd_same), rfl, by show 1 ≤ sizeLine; decide, fun l hl => ?_⟩
      exact q l ["list"] _ rfl (Same.new (Same.new (Same.new (Same.refl H) hp) h1) hl) upd_same
    · refine ⟨by show 31 ≤ sizeLine; decide, fun p hp => ⟨_, rfl, by show 6 ≤ sizeLine; decide, fun q1 h1 => ⟨q1, _, rfl, .inl (SqL.of upd_same), rfl, rfl, _, rfl, iteF ?_⟩⟩⟩
      refine ⟨_, rfl, _, rfl, p, _, 7, .str "pair", rfl, rfl, SqL.of (by rw [upd_ne (ne_of_none upd_same h1)]; exact upd_same), rfl, rfl, _, rfl, _, rfl, _, rfl, p, _, 7, .str "pair", rfl, rfl, SqL.of (by rw [upd_ne (ne_of_none upd_same h1)]; exact upd_same), rfl, by show 1 ≤ sizeLine; decide, fun l hl => ?_⟩
      exact q l ["pair"] _ rfl (Same.new (Same.new (Same.new (Same.refl H) hp) h1) hl) upd_same
    · refine ⟨by show 31 ≤ sizeLine; decide, fun p hp => ⟨_, rfl, by show 6 ≤ sizeLine; decide, fun q1 h1 => ⟨q1, _, rfl, .inl (SqL.of upd_same), rfl, rfl, _, rfl, iteF ?_⟩⟩⟩
      refine ⟨_, rfl, _, rfl, p, _, 8, .str "list", rfl, rfl, SqL.of (by rw [upd_ne (ne_of_none upd_same h1)]; exact upd_same), rfl, rfl, _, rfl, _, rfl, _, rfl, p, _, 8, .str "list", rfl, rfl, SqL.of (by rw [upd_ne (ne_of_none upd_same h1)]; exact upd_same), rfl, by show 1 ≤ sizeLine; decide, fun l hl => ?_⟩
      exact q l ["list"] _ rfl (Same.new (Same.new (Same.new (Same.refl H) hp) h1) hl) upd_same
    · refine ⟨by show 31 ≤ sizeLine; decide, fun p hp => ⟨_, rfl, by show 6 ≤ sizeLine; decide, fun q1 h1 => ⟨q1, _, rfl, .inl (SqL.of upd_same), rfl, rfl, _, rfl, iteF ?_⟩⟩⟩
      refine ⟨_, rfl, _, rfl, p, _, 9, .str "", rfl, rfl, SqL.of (by rw [upd_ne (ne_of_none upd_same h1)]; exact upd_same), rfl, rfl, _, rfl, by show 0 ≤ sizeLine; decide, fun l hl => ?_⟩
      exact q l [] _ rfl (Same.new (Same.new (Same.new (Same.refl H) hp) h1) hl) upd_same
    · refine ⟨by show 31 ≤ sizeLine; decide, fun p hp => ⟨_, rfl, by show 6 ≤ sizeLine; decide, fun q1 h1 => ⟨q1, _, rfl, .inl (SqL.of upd_same), rfl, rfl, _, rfl, iteF ?_⟩⟩⟩
      refine ⟨_, rfl, _, rfl, p, _, 10, .str "", rfl, rfl, SqL.of (by rw [upd_ne (ne_of_none upd_same h1)]; exact upd_same), rfl, rfl, _, rfl, by show 0 ≤ sizeLine; decide, fun l hl => ?_⟩
      exact q l [] _ rfl (Same.new (Same.new (Same.new (Same.refl H) hp) h1) hl) upd_same
    · refine ⟨by show 31 ≤ sizeLine; decide, fun p hp => ⟨_, rfl, by show 6 ≤ sizeLine; decide, fun q1 h1 => ⟨q1, _, rfl, .inl (SqL.of upd_same), rfl, rfl, _, rfl, iteF ?_⟩⟩⟩
      refine ⟨_, rfl, _, rfl, p, _, 11, .str "word", rfl, rfl, SqL.of (by rw [upd_ne (ne_of_none upd_same h1)]; exact upd_same), rfl, rfl, _, rfl, _, rfl, _, rfl, p, _, 11, .str "word", rfl, rfl, SqL.of (by rw [upd_ne (ne_of_none upd_same h1)]; exact upd_same), rfl, by show 1 ≤ sizeLine; decide, fun l hl => ?_⟩
      exact q l ["word"] _ rfl (Same.new (Same.new (Same.new (Same.refl H) hp) h1) hl) upd_same
    · refine ⟨by show 31 ≤ sizeLine; decide, fun p hp => ⟨_, rfl, by show 6 ≤ sizeLine; decide, fun q1 h1 => ⟨q1, _, rfl, .inl (SqL.of upd_same), rfl, rfl, _, rfl, iteF ?_⟩⟩⟩
      refine ⟨_, rfl, _, rfl, p, _, 12, .str "count", rfl, rfl, SqL.of (by rw [upd_ne (ne_of_none upd_same h1)]; exact upd_same), rfl, rfl, _, rfl, _, rfl, _, rfl, p, _, 12, .str "count", rfl, rfl, SqL.of (by rw [upd_ne (ne_of_none upd_same h1)]; exact upd_same), rfl, by show 1 ≤ sizeLine; decide, fun l hl => ?_⟩
      exact q l ["count"] _ rfl (Same.new (Same.new (Same.new (Same.refl H) hp) h1) hl) upd_same
    · refine ⟨by show 31 ≤ sizeLine; decide, fun p hp => ⟨_, rfl, by show 6 ≤ sizeLine; decide, fun q1 h1 => ⟨q1, _, rfl, .inl (SqL.of upd_same), rfl, rfl, _, rfl, iteT ?_⟩⟩⟩
      refine ⟨by show 2 ≤ sizeLine; decide, fun l1 e1 => ⟨by show 2 ≤ sizeLine; decide, fun l2 e2 => ⟨by show 2 ≤ sizeLine; decide, fun l3 e3 => ⟨by show 2 ≤ sizeLine; decide, fun l4 e4 => ⟨by show 2 ≤ sizeLine; decide, fun l5 e5 => ⟨by show 2 ≤ sizeLine; decide, fun l6 e6 => ⟨by show 6 ≤ sizeLine; decide, fun o eo => ⟨by show 6 ≤ sizeLine; decide, fun q8 e8 => ?_⟩⟩⟩⟩⟩⟩⟩⟩
      refine ⟨.inl ⟨rfl, _, SqL.of upd_same⟩, _, rfl, q8, _, .int 13, 1, .int 13, rfl, rfl, SqL.of upd_same, rfl, rfl, rfl, rfl, noEq rfl, ?_⟩
      refine ⟨o, _, 1, .ref l2, rfl, rfl, SqL.of (by rw [upd_ne (ne_of_none upd_same e8)]; exact upd_same), rfl, ?_⟩
      exact q l2 ["count", "any"] _ rfl (Same.new (Same.new (Same.new (Same.new (Same.new (Same.new (Same.new (Same.new (Same.new (Same.new (Same.refl H) hp) h1) e1) e2) e3) e4) e5) e6) eo) e8) ((Same.new (Same.new (Same.new (Same.new (Same.new (Same.new (Same.refl _) e3) e4) e5) e6) eo) e8) _ _ upd_same)
    · refine ⟨by show 31 ≤ sizeLine; decide, fun p hp => ⟨_, rfl, by show 6 ≤ sizeLine; decide, fun q1 h1 => ⟨q1, _, rfl, .inl (SqL.of upd_same), rfl, rfl, _, rfl, iteT ?_⟩⟩⟩
      refine ⟨by show 2 ≤ sizeLine; decide, fun l1 e1 => ⟨by show 2 ≤ sizeLine; decide, fun l2 e2 => ⟨by show 2 ≤ sizeLine; decide, fun l3 e3 => ⟨by show 2 ≤ sizeLine; decide, fun l4 e4 => ⟨by show 2 ≤ sizeLine; decide, fun l5 e5 => ⟨by show 2 ≤ sizeLine; decide, fun l6 e6 => ⟨by show 6 ≤ sizeLine; decide, fun o eo => ⟨by show 6 ≤ sizeLine; decide, fun q8 e8 => ?_⟩⟩⟩⟩⟩⟩⟩⟩
      refine ⟨.inl ⟨rfl, _, SqL.of upd_same⟩, _, rfl, q8, _, .int 14, 2, .int 14, rfl, rfl, SqL.of upd_same, rfl, rfl, rfl, rfl, noEq rfl, ?_⟩
      refine ⟨o, _, 2, .ref l3, rfl, rfl, SqL.of (by rw [upd_ne (ne_of_none upd_same e8)]; exact upd_same), rfl, ?_⟩
      exact q l3 ["count", "any"] _ rfl (Same.new (Same.new (Same.new (Same.new (Same.new (Same.new (Same.new (Same.new (Same.new (Same.new (Same.refl H) hp) h1) e1) e2) e3) e4) e5) e6) eo) e8) ((Same.new (Same.new (Same.new (Same.new (Same.new (Same.refl _) e4) e5) e6) eo) e8) _ _ upd_same)
    · refine ⟨by show 31 ≤ sizeLine; decide, fun p hp => ⟨_, rfl, by show 6 ≤ sizeLine; decide, fun q1 h1 => ⟨q1, _, rfl, .inl (SqL.of upd_same), rfl, rfl, _, rfl, iteT ?_⟩⟩⟩
      refine ⟨by show 2 ≤ sizeLine; decide, fun l1 e1 => ⟨by show 2 ≤ sizeLine; decide, fun l2 e2 => ⟨by show 2 ≤ sizeLine; decide, fun l3 e3 => ⟨by show 2 ≤ sizeLine; decide, fun l4 e4 => ⟨by show 2 ≤ sizeLine; decide, fun l5 e5 => ⟨by show 2 ≤ sizeLine; decide, fun l6 e6 => ⟨by show 6 ≤ sizeLine; decide, fun o eo => ⟨by show 6 ≤ sizeLine; decide, fun q8 e8 => ?_⟩⟩⟩⟩⟩⟩⟩⟩
      refine ⟨.inl ⟨rfl, _, SqL.of upd_same⟩, _, rfl, q8, _, .int 15, 3, .int 15, rfl, rfl, SqL.of upd_same, rfl, rfl, rfl, rfl, noEq rfl, ?_⟩
      refine ⟨o, _, 3, .ref l4, rfl, rfl, SqL.of (by rw [upd_ne (ne_of_none upd_same e8)]; exact upd_same), rfl, ?_⟩
      exact q l4 ["count", "any"] _ rfl (Same.new (Same.new (Same.new (Same.new (Same.new (Same.new (Same.new (Same.new (Same.new (Same.new (Same.refl H) hp) h1) e1) e2) e3) e4) e5) e6) eo) e8) ((Same.new (Same.new (Same.new (Same.new (Same.refl _) e5) e6) eo) e8) _ _ upd_same)
    · refine ⟨by show 31 ≤ sizeLine; decide, fun p hp => ⟨_, rfl, by show 6 ≤ sizeLine; decide, fun q1 h1 => ⟨q1, _, rfl, .inl (SqL.of upd_same), rfl, rfl, _, rfl, iteF ?_⟩⟩⟩
      refine ⟨_, rfl, _, rfl, p, _, 16, .str "any", rfl, rfl, SqL.of (by rw [upd_ne (ne_of_none upd_same h1)]; exact upd_same), rfl, rfl, _, rfl, _, rfl, _, rfl, p, _, 16, .str "any", rfl, rfl, SqL.of (by rw [upd_ne (ne_of_none upd_same h1)]; exact upd_same), rfl, by show 1 ≤ sizeLine; decide, fun l hl => ?_⟩
      exact q l ["any"] _ rfl (Same.new (Same.new (Same.new (Same.refl H) hp) h1) hl) upd_same
    · refine ⟨by show 31 ≤ sizeLine; decide, fun p hp => ⟨_, rfl, by show 6 ≤ sizeLine; decide, fun q1 h1 => ⟨q1, _, rfl, .inl (SqL.of upd_same), rfl, rfl, _, rfl, iteF ?_⟩⟩⟩
      refine ⟨_, rfl, _, rfl, p, _, 17, .str "any", rfl, rfl, SqL.of (by rw [upd_ne (ne_of_none upd_same h1)]; exact upd_same), rfl, rfl, _, rfl, _, rfl, _, rfl, p, _, 17, .str "any", rfl, rfl, SqL.of (by rw [upd_ne (ne_of_none upd_same h1)]; exact upd_same), rfl, by show 1 ≤ sizeLine; decide, fun l hl => ?_⟩
      exact q l ["any"] _ rfl (Same.new (Same.new (Same.new (Same.refl H) hp) h1) hl) upd_same
    · refine ⟨by show 31 ≤ sizeLine; decide, fun p hp => ⟨_, rfl, by show 6 ≤ sizeLine; decide, fun q1 h1 => ⟨q1, _, rfl, .inl (SqL.of upd_same), rfl, rfl, _, rfl, iteF ?_⟩⟩⟩
      refine ⟨_, rfl, _, rfl, p, _, 18, .str "any", rfl, rfl, SqL.of (by rw [upd_ne (ne_of_none upd_same h1)]; exact upd_same), rfl, rfl, _, rfl, _, rfl, _, rfl, p, _, 18, .str "any", rfl, rfl, SqL.of (by rw [upd_ne (ne_of_none upd_same h1)]; exact upd_same), rfl, by show 1 ≤ sizeLine; decide, fun l hl => ?_⟩
      exact q l ["any"] _ rfl (Same.new (Same.new (Same.new (Same.refl H) hp) h1) hl) upd_same
    · refine ⟨by show 31 ≤ sizeLine; decide, fun p hp => ⟨_, rfl, by show 6 ≤ sizeLine; decide, fun q1 h1 => ⟨q1, _, rfl, .inl (SqL.of upd_same), rfl, rfl, _, rfl, iteF ?_⟩⟩⟩
      refine ⟨_, rfl, _, rfl, p, _, 19, .str "any", rfl, rfl, SqL.of (by rw [upd_ne (ne_of_none upd_same h1)]; exact upd_same), rfl, rfl, _, rfl, _, rfl, _, rfl, p, _, 19, .str "any", rfl, rfl, SqL.of (by rw [upd_ne (ne_of_none upd_same h1)]; exact upd_same), rfl, by show 1 ≤ sizeLine; decide, fun l hl => ?_⟩
      exact q l ["any"] _ rfl (Same.new (Same.new (Same.new (Same.refl H) hp) h1) hl) upd_same
    · refine ⟨by show 31 ≤ sizeLine; decide, fun p hp => ⟨_, rfl, by show 6 ≤ sizeLine; decide, fun q1 h1 => ⟨q1, _, rfl, .inl (SqL.of upd_same), rfl, rfl, _, rfl, iteF ?_⟩⟩⟩
      refine ⟨_, rfl, _, rfl, p, _, 20, .str "", rfl, rfl, SqL.of (by rw [upd_ne (ne_of_none upd_same h1)]; exact upd_same), rfl, rfl, _, rfl, by show 0 ≤ sizeLine; decide, fun l hl => ?_⟩
      exact q l [] _ rfl (Same.new (Same.new (Same.new (Same.refl H) hp) h1) hl) upd_same
    · refine ⟨by show 31 ≤ sizeLine; decide, fun p hp => ⟨_, rfl, by show 6 ≤ sizeLine; decide, fun q1 h1 => ⟨q1, _, rfl, .inl (SqL.of upd_same), rfl, rfl, _, rfl, iteF ?_⟩⟩⟩
      refine ⟨_, rfl, _, rfl, p, _, 21, .str "any", rfl, rfl, SqL.of (by rw [upd_ne (ne_of_none upd_same h1)]; exact upd_same), rfl, rfl, _, rfl, _, rfl, _, rfl, p, _, 21, .str "any", rfl, rfl, SqL.of (by rw [upd_ne (ne_of_none upd_same h1)]; exact upd_same), rfl, by show 1 ≤ sizeLine; decide, fun l hl => ?_⟩
      exact q l ["any"] _ rfl (Same.new (Same.new (Same.new (Same.refl H) hp) h1) hl) upd_same
    · refine ⟨by show 31 ≤ sizeLine; decide, fun p hp => ⟨_, rfl, by show 6 ≤ sizeLine; decide, fun q1 h1 => ⟨q1, _, rfl, .inl (SqL.of upd_same), rfl, rfl, _, rfl, iteF ?_⟩⟩⟩
      refine ⟨_, rfl, _, rfl, p, _, 22, .str "", rfl, rfl, SqL.of (by rw [upd_ne (ne_of_none upd_same h1)]; exact upd_same), rfl, rfl, _, rfl, by show 0 ≤ sizeLine; decide, fun l hl => ?_⟩
      exact q l [] _ rfl (Same.new (Same.new (Same.new (Same.refl H) hp) h1) hl) upd_same
    · refine ⟨by show 31 ≤ sizeLine; decide, fun p hp => ⟨_, rfl, by show 6 ≤ sizeLine; decide, fun q1 h1 => ⟨q1, _, rfl, .inl (SqL.of upd_same), rfl, rfl, _, rfl, iteF ?_⟩⟩⟩
      refine ⟨_, rfl, _, rfl, p, _, 23, .str "list", rfl, rfl, SqL.of (by rw [upd_ne (ne_of_none upd_same h1)]; exact upd_same), rfl, rfl, _, rfl, _, rfl, _, rfl, p, _, 23, .str "list", rfl, rfl, SqL.of (by rw [upd_ne (ne_of_none upd_same h1)]; exact upd_same), rfl, by show 1 ≤ sizeLine; decide, fun l hl => ?_⟩
      exact q l ["list"] _ rfl (Same.new (Same.new (Same.new (Same.refl H) hp) h1) hl) upd_same
    · refine ⟨by show 31 ≤ sizeLine; decide, fun p hp => ⟨_, rfl, by show 6 ≤ sizeLine; decide, fun q1 h1 => ⟨q1, _, rfl, .inl (SqL.of upd_same), rfl, rfl, _, rfl, iteF ?_⟩⟩⟩
      refine ⟨_, rfl, _, rfl, p, _, 24, .str "any", rfl, rfl, SqL.of (by rw [upd_ne (ne_of_none upd_same h1)]; exact upd_same), rfl, rfl, _, rfl, _, rfl, _, rfl, p, _, 24, .str "any", rfl, rfl, SqL.of (by rw [upd_ne (ne_of_none upd_same h1)]; exact upd_same), rfl, by show 1 ≤ sizeLine; decide, fun l hl => ?_⟩
      exact q l ["any"] _ rfl (Same.new (Same.new (Same.new (Same.refl H) hp) h1) hl) upd_same
    · refine ⟨by show 31 ≤ sizeLine; decide, fun p hp => ⟨_, rfl, by show 6 ≤ sizeLine; decide, fun q1 h1 => ⟨q1, _, rfl, .inl (SqL.of upd_same), rfl, rfl, _, rfl, iteF ?_⟩⟩⟩
      refine ⟨_, rfl, _, rfl, p, _, 25, .str "ratio", rfl, rfl, SqL.of (by rw [upd_ne (ne_of_none upd_same h1)]; exact upd_same), rfl, rfl, _, rfl, _, rfl, _, rfl, p, _, 25, .str "ratio", rfl, rfl, SqL.of (by rw [upd_ne (ne_of_none upd_same h1)]; exact upd_same), rfl, by show 1 ≤ sizeLine; decide, fun l hl => ?_⟩
      exact q l ["ratio"] _ rfl (Same.new (Same.new (Same.new (Same.refl H) hp) h1) hl) upd_same
    · refine ⟨by show 31 ≤ sizeLine; decide, fun p hp => ⟨_, rfl, by show 6 ≤ sizeLine; decide, fun q1 h1 => ⟨q1, _, rfl, .inl (SqL.of upd_same), rfl, rfl, _, rfl, iteT ?_⟩⟩⟩
      refine ⟨by show 2 ≤ sizeLine; decide, fun l1 e1 => ⟨by show 2 ≤ sizeLine; decide, fun l2 e2 => ⟨by show 2 ≤ sizeLine; decide, fun l3 e3 => ⟨by show 2 ≤ sizeLine; decide, fun l4 e4 => ⟨by show 2 ≤ sizeLine; decide, fun l5 e5 => ⟨by show 2 ≤ sizeLine; decide, fun l6 e6 => ⟨by show 6 ≤ sizeLine; decide, fun o eo => ⟨by show 6 ≤ sizeLine; decide, fun q8 e8 => ?_⟩⟩⟩⟩⟩⟩⟩⟩
      refine ⟨.inl ⟨rfl, _, SqL.of upd_same⟩, _, rfl, q8, _, .int 26, 4, .int 26, rfl, rfl, SqL.of upd_same, rfl, rfl, rfl, rfl, noEq rfl, ?_⟩
      refine ⟨o, _, 4, .ref l5, rfl, rfl, SqL.of (by rw [upd_ne (ne_of_none upd_same e8)]; exact upd_same), rfl, ?_⟩
      exact q l5 ["word", "count"] _ rfl (Same.new (Same.new (Same.new (Same.new (Same.new (Same.new (Same.new (Same.new (Same.new (Same.new (Same.refl H) hp) h1) e1) e2) e3) e4) e5) e6) eo) e8) ((Same.new (Same.new (Same.new (Same.refl _) e6) eo) e8) _ _ upd_same)
    · refine ⟨by show 31 ≤ sizeLine; decide, fun p hp => ⟨_, rfl, by show 6 ≤ sizeLine; decide, fun q1 h1 => ⟨q1, _, rfl, .inl (SqL.of upd_same), rfl, rfl, _, rfl, iteF ?_⟩⟩⟩
      refine ⟨_, rfl, _, rfl, p, _, 27, .str "spot", rfl, rfl, SqL.of (by rw [upd_ne (ne_of_none upd_same h1)]; exact upd_same), rfl, rfl, _, rfl, _, rfl, _, rfl, p, _, 27, .str "spot", rfl, rfl, SqL.of (by rw [upd_ne (ne_of_none upd_same h1)]; exact upd_same), rfl, by show 1 ≤ sizeLine; decide, fun l hl => ?_⟩
      exact q l ["spot"] _ rfl (Same.new (Same.new (Same.new (Same.refl H) hp) h1) hl) upd_same
    · refine ⟨by show 31 ≤ sizeLine; decide, fun p hp => ⟨_, rfl, by show 6 ≤ sizeLine; decide, fun q1 h1 => ⟨q1, _, rfl, .inl (SqL.of upd_same), rfl, rfl, _, rfl, iteF ?_⟩⟩⟩
      refine ⟨_, rfl, _, rfl, p, _, 28, .str "spot", rfl, rfl, SqL.of (by rw [upd_ne (ne_of_none upd_same h1)]; exact upd_same), rfl, rfl, _, rfl, _, rfl, _, rfl, p, _, 28, .str "spot", rfl, rfl, SqL.of (by rw [upd_ne (ne_of_none upd_same h1)]; exact upd_same), rfl, by show 1 ≤ sizeLine; decide, fun l hl => ?_⟩
      exact q l ["spot"] _ rfl (Same.new (Same.new (Same.new (Same.refl H) hp) h1) hl) upd_same
    · refine ⟨by show 31 ≤ sizeLine; decide, fun p hp => ⟨_, rfl, by show 6 ≤ sizeLine; decide, fun q1 h1 => ⟨q1, _, rfl, .inl (SqL.of upd_same), rfl, rfl, _, rfl, iteF ?_⟩⟩⟩
      refine ⟨_, rfl, _, rfl, p, _, 29, .str "count", rfl, rfl, SqL.of (by rw [upd_ne (ne_of_none upd_same h1)]; exact upd_same), rfl, rfl, _, rfl, _, rfl, _, rfl, p, _, 29, .str "count", rfl, rfl, SqL.of (by rw [upd_ne (ne_of_none upd_same h1)]; exact upd_same), rfl, by show 1 ≤ sizeLine; decide, fun l hl => ?_⟩
      exact q l ["count"] _ rfl (Same.new (Same.new (Same.new (Same.refl H) hp) h1) hl) upd_same
    · refine ⟨by show 31 ≤ sizeLine; decide, fun p hp => ⟨_, rfl, by show 6 ≤ sizeLine; decide, fun q1 h1 => ⟨q1, _, rfl, .inl (SqL.of upd_same), rfl, rfl, _, rfl, iteT ?_⟩⟩⟩
      refine ⟨by show 2 ≤ sizeLine; decide, fun l1 e1 => ⟨by show 2 ≤ sizeLine; decide, fun l2 e2 => ⟨by show 2 ≤ sizeLine; decide, fun l3 e3 => ⟨by show 2 ≤ sizeLine; decide, fun l4 e4 => ⟨by show 2 ≤ sizeLine; decide, fun l5 e5 => ⟨by show 2 ≤ sizeLine; decide, fun l6 e6 => ⟨by show 6 ≤ sizeLine; decide, fun o eo => ⟨by show 6 ≤ sizeLine; decide, fun q8 e8 => ?_⟩⟩⟩⟩⟩⟩⟩⟩
      refine ⟨.inl ⟨rfl, _, SqL.of upd_same⟩, _, rfl, q8, _, .int 30, 5, .int 30, rfl, rfl, SqL.of upd_same, rfl, rfl, rfl, rfl, noEq rfl, ?_⟩
      refine ⟨o, _, 5, .ref l6, rfl, rfl, SqL.of (by rw [upd_ne (ne_of_none upd_same e8)]; exact upd_same), rfl, ?_⟩
      exact q l6 ["count", "word"] _ rfl (Same.new (Same.new (Same.new (Same.new (Same.new (Same.new (Same.new (Same.new (Same.new (Same.new (Same.refl H) hp) h1) e1) e2) e3) e4) e5) e6) eo) e8) ((Same.new (Same.new (Same.refl _) eo) e8) _ _ upd_same)
end
end Ko

namespace Ko
open PySem L2 PySem.Spec PyProof.Rows
open C8 (pss_cut tCut)
open RZ (pi_zipA ItzT)
abbrev s_like : Stmt := top 38
theorem sc_like : FnScope ["_law_found", "_law_due", "_law_one", "_law_two"] ["_law_found", "_law_due"] (defScope s_like) := ⟨rfl, rfl, rfl, by decide +kernel, rfl, by decide +kernel, by decide +kernel⟩
theorem kit_int_list : kitB "int" "list" = some false := by decide +kernel
theorem kit_int_tuple : kitB "int" "tuple" = some false := by decide +kernel
theorem kit_int_bool : kitB "int" "bool" = some false := by decide +kernel
theorem kit_int_str : kitB "int" "str" = some false := by decide +kernel
theorem kit_int_int : kitB "int" "int" = some true := by decide +kernel
theorem kit_str_list : kitB "str" "list" = some false := by decide +kernel
theorem kit_str_tuple : kitB "str" "tuple" = some false := by decide +kernel
theorem kit_str_bool : kitB "str" "bool" = some false := by decide +kernel
theorem kit_str_str : kitB "str" "str" = some true := by decide +kernel
theorem kit_str_int : kitB "str" "int" = some false := by decide +kernel
theorem kit_bool_list : kitB "bool" "list" = some false := by decide +kernel
theorem kit_bool_tuple : kitB "bool" "tuple" = some false := by decide +kernel
theorem kit_bool_bool : kitB "bool" "bool" = some true := by decide +kernel
theorem kit_bool_str : kitB "bool" "str" = some false := by decide +kernel
theorem kit_bool_int : kitB "bool" "int" = some true := by decide +kernel
theorem kit_NoneType_list : kitB "NoneType" "list" = some false := by decide +kernel
theorem kit_NoneType_tuple : kitB "NoneType" "tuple" = some false := by decide +kernel
theorem kit_NoneType_bool : kitB "NoneType" "bool" = some false := by decide +kernel
theorem kit_NoneType_str : kitB "NoneType" "str" = some false := by decide +kernel
theorem kit_NoneType_int : kitB "NoneType" "int" = some false := by decide +kernel
theorem kit_list_list : kitB "list" "list" = some true := by decide +kernel
theorem kit_list_tuple : kitB "list" "tuple" = some false := by decide +kernel
theorem kit_list_bool : kitB "list" "bool" = some false := by decide +kernel
theorem kit_list_str : kitB "list" "str" = some false := by decide +kernel
theorem kit_list_int : kitB "list" "int" = some false := by decide +kernel
theorem kit_tuple_list : kitB "tuple" "list" = some false := by decide +kernel
theorem kit_tuple_tuple : kitB "tuple" "tuple" = some true := by decide +kernel
theorem kit_tuple_bool : kitB "tuple" "bool" = some false := by decide +kernel
theorem kit_tuple_str : kitB "tuple" "str" = some false := by decide +kernel
theorem kit_tuple_int : kitB "tuple" "int" = some false := by decide +kernel

abbrev Any : Addr → Prop := fun _ => True
/-- alike: the same leaf, or two lists (two tuples) of the same values -/
def Like (H : Hp) (n : Nat) (x y : V) : Prop := (Leaf x ∧ x = y) ∨ ∃ (p r : Addr) (xs : List V) (k : Nat), x = .ref p ∧ y = .ref r ∧ ((H p = some (.lst xs) ∧ H r = some (.lst xs)) ∨ (H p = some (.tup xs) ∧ H r = some (.tup xs))) ∧
  xs.length ≤ 1000 ∧ n = k + 1 ∧ ∀ z ∈ xs, Val H Any k z
theorem Val.like {H : Hp} : ∀ {n : Nat} {v : V}, Val H Any n v → Like H n v v
  | 0, _, h => .inl ⟨h, rfl⟩
  | n + 1, v, h => by
    rcases h with h | ⟨a, xs, e, _, ha, hl, hx⟩
    · exact .inl ⟨h, rfl⟩
    · refine .inr ⟨a, a, xs, n, e, e, ?_, hl, rfl, hx⟩
      rcases ha with ha | ha
      · exact .inl ⟨ha, ha⟩
      · exact .inr ⟨ha, ha⟩
def spLike (n : Nat) : Sp := fun vs H Q _ => ∃ x y, vs = [x, y] ∧ Like H n x y ∧ ∀ H', Same H H' → Q (.bl true) H'
theorem kLTF {K : PySem.W.Frag} {t : String} (h1 : kitB t "list" = some false) (h2 : kitB t "tuple" = some false) : PySem.W.kitAny K (.type t) [.type "list", .type "tuple"] = some false :=
  kitAny_cons (kit_ty h1) (fun _ => kitAny_cons (kit_ty h2) (fun _ => kitAny_nil) (fun e => by cases e)) (fun e => by cases e)
theorem kLTT {K : PySem.W.Frag} {t : String} {b1 b2 : Bool} (h1 : kitB t "list" = some b1) (h2 : kitB t "tuple" = some b2) (hb : (b1 || b2) = true) : PySem.W.kitAny K (.type t) [.type "list", .type "tuple"] = some true :=
  kitAny_cons (kit_ty h1) (fun e => kitAny_cons (kit_ty h2) (fun e2 => by rw [e, e2] at hb; cases hb) fun _ => rfl) (fun _ => rfl)
theorem walk_zipT {K : PySem.W.Frag} {a b : Addr} {xs ys : List V} {n : Nat} (hn : n = min xs.length ys.length) : Walk (ItzT K a b) n (fun H => SqT K H a xs ∧ SqT K H b ys) (YPair (fun i => xs[i]?) (fun i => ys[i]?)) := by
  subst hn
  refine ⟨fun i H hi q => ?_, fun H q => ⟨xs, ys, q.1, q.2, by omega⟩, fun i H v H' hi q y => ?_⟩
  · have l1 : i < xs.length := by omega
    have l2 : i < ys.length := by omega
    exact ⟨xs, ys, xs[i], ys[i], q.1, q.2, by simp [l1], by simp [l2]⟩
  · obtain ⟨T, x, z, e1, e2, e3, e4, e5⟩ := y
    exact ⟨T, x, z, e1, e2, e3, e4 xs q.1, e5 ys q.2⟩
section
variable {P : Program} {w : World} {K : PySem.W.Frag} {mg : Str → Option Value} {base : Heap} {f : Addr} {fd : FuncData}
theorem ok_like0 (F : Fun K "_law_like" "_law_like" s_like f fd) (T : Blt mg) : FnOk P w K mg base CX0 1 f fd ["_law_found", "_law_due"] (spLike 0) := by
  refine F.ok sc_like (fun vs H Q E h => ?_) (fun cdv A outer s H vs Q E hr h => ?_)
  · obtain ⟨x, y, rfl, _⟩ := h
    rfl
  · obtain ⟨x, y, rfl, hl, q⟩ := h
    refine ⟨_, (pss_cons (ps_if (pt_val (pe_callB call_isiT (by rfl) T.n_isinstance (by decide +kernel) (pa_cons (pv 1) (pa_cons (pe_tup (pa_cons (pe_bltn (v := .ty "list") (by rfl) T.n_list (by decide +kernel) rfl) (pa_cons (pe_bltn (v := .ty "tuple") (by rfl) T.n_tuple (by decide +kernel) rfl) pa_nil))) pa_nil)))) pss_never pss_nil)
      (pss_cons (ps_if (PW.pt (pw_or (pt_cmpR op_isN (pv 1) pe_non (nomark _)) (pw_or1 (pt_cmpR op_isN (pv 0) pe_non (nomark _)))))
      (pss_one (ps_ret (pe_and (pe_cmpR op_isN (pv 1) pe_non (nomark _)) (pe_one (pe_cmpR op_isN (pv 0) pe_non (nomark _)))))) pss_nil)
      (pss_cons (ps_if (PW.pt (pw_or (pt_val (pe_callB call_isi (by rfl) T.n_isinstance (by decide +kernel) (pa_cons (pv 1) (pa_cons (pe_bltn (v := .ty "bool") (by rfl) T.n_bool (by decide +kernel) rfl) pa_nil)))) (pw_or1 (pt_val (pe_callB call_isi (by rfl) T.n_isinstance (by decide +kernel) (pa_cons (pv 0) (pa_cons (pe_bltn (v := .ty "bool") (by rfl) T.n_bool (by decide +kernel) rfl) pa_nil)))))))
      (pss_one (ps_ret (pe_and (pe_callB call_isi (by rfl) T.n_isinstance (by decide +kernel) (pa_cons (pv 0) (pa_cons (pe_bltn (v := .ty "bool") (by rfl) T.n_bool (by decide +kernel) rfl) pa_nil))) (pe_and (pe_callB call_isi (by rfl) T.n_isinstance (by decide +kernel) (pa_cons (pv 1) (pa_cons (pe_bltn (v := .ty "bool") (by rfl) T.n_bool (by decide +kernel) rfl) pa_nil))) (pe_one (pe_cmpR op_eq (pv 0) (pv 1) (nomark _))))))) pss_nil)
      (pss_cons (ps_if (PW.pt (pw_or (pt_val (pe_callB call_isiT (by rfl) T.n_isinstance (by decide +kernel) (pa_cons (pv 0) (pa_cons (pe_tup (pa_cons (pe_bltn (v := .ty "list") (by rfl) T.n_list (by decide +kernel) rfl) (pa_cons (pe_bltn (v := .ty "tuple") (by rfl) T.n_tuple (by decide +kernel) rfl) pa_nil))) pa_nil)))) (pw_or1 (pt_cmpR op_ne (pe_callB call_isi (by rfl) T.n_isinstance (by decide +kernel) (pa_cons (pv 0) (pa_cons (pe_bltn (v := .ty "str") (by rfl) T.n_str (by decide +kernel) rfl) pa_nil))) (pe_callB call_isi (by rfl) T.n_isinstance (by decide +kernel) (pa_cons (pv 1) (pa_cons (pe_bltn (v := .ty "str") (by rfl) T.n_str (by decide +kernel) rfl) pa_nil))) (nomark _)))))
      (pss_one (ps_ret pe_bl)) pss_nil)
      (pss_one (ps_ret (pe_and (pe_cmpR op_eq (pe_callB call_isi (by rfl) T.n_isinstance (by decide +kernel) (pa_cons (pv 0) (pa_cons (pe_bltn (v := .ty "int") (by rfl) T.n_int (by decide +kernel) rfl) pa_nil))) (pe_callB call_isi (by rfl) T.n_isinstance (by decide +kernel) (pa_cons (pv 1) (pa_cons (pe_bltn (v := .ty "int") (by rfl) T.n_int (by decide +kernel) rfl) pa_nil))) (nomark _)) (pe_one (pe_cmpR op_eq (pv 0) (pv 1) (nomark _)))))))))), ?_⟩
    rcases hl with ⟨lf, rfl⟩ | ⟨_, _, _, _, _, _, _, _, hn, _⟩
    · skip
      cases x with
      | int z =>
        refine ⟨_, rfl, by show 2 ≤ sizeLine; decide, fun tp htp => ⟨_, _, _, _, [.type "list", .type "tuple"], false, rfl, upd_same, .cons (.ty _) (.cons (.ty _) .nil), TyX.base (.int z), kLTF kit_int_list kit_int_tuple, _, rfl, iteF ?_⟩⟩
        refine ⟨_, rfl, rfl, _, rfl, iteF ⟨_, rfl, rfl, _, rfl, iteF ?_⟩⟩
        refine ⟨_, rfl, ⟨_, _, _, _, _, rfl, .ty _, (TyX.base (.int z)), kit_ty kit_int_bool, _, rfl, iteF ⟨_, rfl, ⟨_, _, _, _, _, rfl, .ty _, (TyX.base (.int z)), kit_ty kit_int_bool, _, rfl, iteF ?_⟩⟩⟩⟩
        refine ⟨_, rfl, by show 2 ≤ sizeLine; decide, fun tp2 htp2 => ⟨_, _, _, _, [.type "list", .type "tuple"], false, rfl, upd_same, .cons (.ty _) (.cons (.ty _) .nil), TyX.base (.int z), kLTF kit_int_list kit_int_tuple, _, rfl, iteF ?_⟩⟩
        refine ⟨_, rfl, ⟨_, _, _, _, _, rfl, .ty _, (TyX.base (.int z)), kit_ty kit_int_str, _, rfl, ⟨_, _, _, _, _, rfl, .ty _, (TyX.base (.int z)), kit_ty kit_int_str, rfl, _, rfl, iteF ?_⟩⟩⟩
        refine ⟨_, rfl, ⟨_, _, _, _, _, rfl, .ty _, (TyX.base (.int z)), kit_ty kit_int_int, _, rfl, ⟨_, _, _, _, _, rfl, .ty _, (TyX.base (.int z)), kit_ty kit_int_int, rfl, _, rfl, iteT ⟨_, rfl, _, rfl, rfl, ?_⟩⟩⟩⟩
        rw [decide_eq_true (rfl : V.int z = V.int z)]
        exact q _ (Same.new (Same.new (Same.refl H) htp) htp2)
      | str z =>
        refine ⟨_, rfl, by show 2 ≤ sizeLine; decide, fun tp htp => ⟨_, _, _, _, [.type "list", .type "tuple"], false, rfl, upd_same, .cons (.ty _) (.cons (.ty _) .nil), TyX.base (.str z), kLTF kit_str_list kit_str_tuple, _, rfl, iteF ?_⟩⟩
        refine ⟨_, rfl, rfl, _, rfl, iteF ⟨_, rfl, rfl, _, rfl, iteF ?_⟩⟩
        refine ⟨_, rfl, ⟨_, _, _, _, _, rfl, .ty _, (TyX.base (.str z)), kit_ty kit_str_bool, _, rfl, iteF ⟨_, rfl, ⟨_, _, _, _, _, rfl, .ty _, (TyX.base (.str z)), kit_ty kit_str_bool, _, rfl, iteF ?_⟩⟩⟩⟩
        refine ⟨_, rfl, by show 2 ≤ sizeLine; decide, fun tp2 htp2 => ⟨_, _, _, _, [.type "list", .type "tuple"], false, rfl, upd_same, .cons (.ty _) (.cons (.ty _) .nil), TyX.base (.str z), kLTF kit_str_list kit_str_tuple, _, rfl, iteF ?_⟩⟩
        refine ⟨_, rfl, ⟨_, _, _, _, _, rfl, .ty _, (TyX.base (.str z)), kit_ty kit_str_str, _, rfl, ⟨_, _, _, _, _, rfl, .ty _, (TyX.base (.str z)), kit_ty kit_str_str, rfl, _, rfl, iteF ?_⟩⟩⟩
        refine ⟨_, rfl, ⟨_, _, _, _, _, rfl, .ty _, (TyX.base (.str z)), kit_ty kit_str_int, _, rfl, ⟨_, _, _, _, _, rfl, .ty _, (TyX.base (.str z)), kit_ty kit_str_int, rfl, _, rfl, iteT ⟨_, rfl, _, rfl, rfl, ?_⟩⟩⟩⟩
        rw [decide_eq_true (rfl : V.str z = V.str z)]
        exact q _ (Same.new (Same.new (Same.refl H) htp) htp2)
      | bl z =>
        refine ⟨_, rfl, by show 2 ≤ sizeLine; decide, fun tp htp => ⟨_, _, _, _, [.type "list", .type "tuple"], false, rfl, upd_same, .cons (.ty _) (.cons (.ty _) .nil), TyX.base (.bl z), kLTF kit_bool_list kit_bool_tuple, _, rfl, iteF ?_⟩⟩
        refine ⟨_, rfl, rfl, _, rfl, iteF ⟨_, rfl, rfl, _, rfl, iteF ?_⟩⟩
        refine ⟨_, rfl, ⟨_, _, _, _, _, rfl, .ty _, (TyX.base (.bl z)), kit_ty kit_bool_bool, _, rfl, iteT ?_⟩⟩
        refine ⟨_, rfl, ⟨_, _, _, _, _, rfl, .ty _, (TyX.base (.bl z)), kit_ty kit_bool_bool, _, rfl, iteT ⟨_, rfl, ⟨_, _, _, _, _, rfl, .ty _, (TyX.base (.bl z)), kit_ty kit_bool_bool, _, rfl, iteT ⟨_, rfl, _, rfl, rfl, ?_⟩⟩⟩⟩⟩
        rw [decide_eq_true (rfl : V.bl z = V.bl z)]
        exact q _ (Same.new (Same.refl H) htp)
      | non =>
        refine ⟨_, rfl, by show 2 ≤ sizeLine; decide, fun tp htp => ⟨_, _, _, _, [.type "list", .type "tuple"], false, rfl, upd_same, .cons (.ty _) (.cons (.ty _) .nil), TyX.base .non, kLTF kit_NoneType_list kit_NoneType_tuple, _, rfl, iteF ?_⟩⟩
        refine ⟨_, rfl, rfl, _, rfl, iteT ?_⟩
        exact ⟨_, rfl, rfl, _, rfl, iteT ⟨_, rfl, rfl, q _ (Same.new (Same.refl H) htp)⟩⟩
      | _ => exact lf.elim
    · cases hn
theorem ok_like {n k : Nat} (F : Fun K "_law_like" "_law_like" s_like f fd) (T : Blt mg) (D_like : Df P w K mg base k "_law_like" f ["_law_found", "_law_due"] (spLike n)) : FnOk P w K mg base CX0 (k + 1) f fd ["_law_found", "_law_due"] (spLike (n + 1)) := by
  obtain ⟨fdL, G_like, B_like⟩ := D_like.ok
  refine F.ok sc_like (fun vs H Q E h => ?_) (fun cdv A outer s H vs Q E hr h => ?_)
  · obtain ⟨x, y, rfl, _⟩ := h
    rfl
  · obtain ⟨x, y, rfl, hl, q⟩ := h
    refine ⟨_, (pss_cons (ps_if (pt_val (pe_callB call_isiT (by rfl) T.n_isinstance (by decide +kernel) (pa_cons (pv 1) (pa_cons (pe_tup (pa_cons (pe_bltn (v := .ty "list") (by rfl) T.n_list (by decide +kernel) rfl) (pa_cons (pe_bltn (v := .ty "tuple") (by rfl) T.n_tuple (by decide +kernel) rfl) pa_nil))) pa_nil))))
      (pss_cons (ps_if (PW.pt (pw_or (pt_cmpR op_ne (pe_callB call_isi (by rfl) T.n_isinstance (by decide +kernel) (pa_cons (pv 0) (pa_cons (pe_bltn (v := .ty "list") (by rfl) T.n_list (by decide +kernel) rfl) pa_nil))) (pe_callB call_isi (by rfl) T.n_isinstance (by decide +kernel) (pa_cons (pv 1) (pa_cons (pe_bltn (v := .ty "list") (by rfl) T.n_list (by decide +kernel) rfl) pa_nil))) (nomark _)) (pw_or1 (pt_cmpR op_ne (pe_callB call_isi (by rfl) T.n_isinstance (by decide +kernel) (pa_cons (pv 0) (pa_cons (pe_bltn (v := .ty "tuple") (by rfl) T.n_tuple (by decide +kernel) rfl) pa_nil))) (pe_callB call_isi (by rfl) T.n_isinstance (by decide +kernel) (pa_cons (pv 1) (pa_cons (pe_bltn (v := .ty "tuple") (by rfl) T.n_tuple (by decide +kernel) rfl) pa_nil))) (nomark _)))))
      (pss_one (ps_ret pe_bl)) pss_nil)
      (pss_one (ps_ret (pe_and (pe_cmpR op_eq (pe_callB call_len_seq (by rfl) T.n_len PySem.boot_len (pa_cons (pv 0) pa_nil)) (pe_callB call_len_seq (by rfl) T.n_len PySem.boot_len (pa_cons (pv 1) pa_nil)) (nomark _)) (pe_one (pe_callB (cr_all rfl) (by rfl) T.n_all (by decide +kernel) (pa_cons (pe_lc (own := [("_law_one", 2), ("_law_two", 3)]) (g := gTup K 2 (gCons (gName 2) (gCons (gName 3) gNil))) (tt := tYes) rfl sc_like.nd (pi_zipA (by rfl) T.n_zip (pa_cons (pv 0) (pa_cons (pv 1) pa_nil))) (blkOk_by (N := ["_law_found", "_law_due", "_law_one", "_law_two"]) (sc := defScope s_like) (by decide +kernel)) (fun _ _ _ _ _ => by exact pg_tup rfl (pgs_cons (pg_name (i := 2) sc_like.nd rfl (.inl rfl) (.inr rfl)) (pgs_cons (pg_name (i := 3) sc_like.nd rfl (.inl rfl) (.inr rfl)) pgs_nil))) (fun _ _ _ _ _ => pts_nil) (fun _ _ _ _ _ => (pe_call G_like hr (by rfl) D_like.g D_like.kp B_like .nil pass0 (pa_cons (pv 2) (pa_cons (pv 3) pa_nil))))) pa_nil))))))) pss_nil)
      (pss_cons (ps_if (PW.pt (pw_or (pt_cmpR op_isN (pv 1) pe_non (nomark _)) (pw_or1 (pt_cmpR op_isN (pv 0) pe_non (nomark _)))))
      (pss_one (ps_ret (pe_and (pe_cmpR op_isN (pv 1) pe_non (nomark _)) (pe_one (pe_cmpR op_isN (pv 0) pe_non (nomark _)))))) pss_nil)
      (pss_cons (ps_if (PW.pt (pw_or (pt_val (pe_callB call_isi (by rfl) T.n_isinstance (by decide +kernel) (pa_cons (pv 1) (pa_cons (pe_bltn (v := .ty "bool") (by rfl) T.n_bool (by decide +kernel) rfl) pa_nil)))) (pw_or1 (pt_val (pe_callB call_isi (by rfl) T.n_isinstance (by decide +kernel) (pa_cons (pv 0) (pa_cons (pe_bltn (v := .ty "bool") (by rfl) T.n_bool (by decide +kernel) rfl) pa_nil)))))))
      (pss_one (ps_ret (pe_and (pe_callB call_isi (by rfl) T.n_isinstance (by decide +kernel) (pa_cons (pv 0) (pa_cons (pe_bltn (v := .ty "bool") (by rfl) T.n_bool (by decide +kernel) rfl) pa_nil))) (pe_and (pe_callB call_isi (by rfl) T.n_isinstance (by decide +kernel) (pa_cons (pv 1) (pa_cons (pe_bltn (v := .ty "bool") (by rfl) T.n_bool (by decide +kernel) rfl) pa_nil))) (pe_one (pe_cmpR op_eq (pv 0) (pv 1) (nomark _))))))) pss_nil)
      (pss_cons (ps_if (PW.pt (pw_or (pt_val (pe_callB call_isiT (by rfl) T.n_isinstance (by decide +kernel) (pa_cons (pv 0) (pa_cons (pe_tup (pa_cons (pe_bltn (v := .ty "list") (by rfl) T.n_list (by decide +kernel) rfl) (pa_cons (pe_bltn (v := .ty "tuple") (by rfl) T.n_tuple (by decide +kernel) rfl) pa_nil))) pa_nil)))) (pw_or1 (pt_cmpR op_ne (pe_callB call_isi (by rfl) T.n_isinstance (by decide +kernel) (pa_cons (pv 0) (pa_cons (pe_bltn (v := .ty "str") (by rfl) T.n_str (by decide +kernel) rfl) pa_nil))) (pe_callB call_isi (by rfl) T.n_isinstance (by decide +kernel) (pa_cons (pv 1) (pa_cons (pe_bltn (v := .ty "str") (by rfl) T.n_str (by decide +kernel) rfl) pa_nil))) (nomark _)))))
      (pss_one (ps_ret pe_bl)) pss_nil)
      (pss_one (ps_ret (pe_and (pe_cmpR op_eq (pe_callB call_isi (by rfl) T.n_isinstance (by decide +kernel) (pa_cons (pv 0) (pa_cons (pe_bltn (v := .ty "int") (by rfl) T.n_int (by decide +kernel) rfl) pa_nil))) (pe_callB call_isi (by rfl) T.n_isinstance (by decide +kernel) (pa_cons (pv 1) (pa_cons (pe_bltn (v := .ty "int") (by rfl) T.n_int (by decide +kernel) rfl) pa_nil))) (nomark _)) (pe_one (pe_cmpR op_eq (pv 0) (pv 1) (nomark _)))))))))), ?_⟩
    rcases hl with ⟨lf, rfl⟩ | ⟨p, r, xs, k', rfl, rfl, hh, hlen, hn, hv⟩
    · skip
      cases x with
      | int z =>
        refine ⟨_, rfl, by show 2 ≤ sizeLine; decide, fun tp htp => ⟨_, _, _, _, [.type "list", .type "tuple"], false, rfl, upd_same, .cons (.ty _) (.cons (.ty _) .nil), TyX.base (.int z), kLTF kit_int_list kit_int_tuple, _, rfl, iteF ?_⟩⟩
        refine ⟨_, rfl, rfl, _, rfl, iteF ⟨_, rfl, rfl, _, rfl, iteF ?_⟩⟩
        refine ⟨_, rfl, ⟨_, _, _, _, _, rfl, .ty _, (TyX.base (.int z)), kit_ty kit_int_bool, _, rfl, iteF ⟨_, rfl, ⟨_, _, _, _, _, rfl, .ty _, (TyX.base (.int z)), kit_ty kit_int_bool, _, rfl, iteF ?_⟩⟩⟩⟩
        refine ⟨_, rfl, by show 2 ≤ sizeLine; decide, fun tp2 htp2 => ⟨_, _, _, _, [.type "list", .type "tuple"], false, rfl, upd_same, .cons (.ty _) (.cons (.ty _) .nil), TyX.base (.int z), kLTF kit_int_list kit_int_tuple, _, rfl, iteF ?_⟩⟩
        refine ⟨_, rfl, ⟨_, _, _, _, _, rfl, .ty _, (TyX.base (.int z)), kit_ty kit_int_str, _, rfl, ⟨_, _, _, _, _, rfl, .ty _, (TyX.base (.int z)), kit_ty kit_int_str, rfl, _, rfl, iteF ?_⟩⟩⟩
        refine ⟨_, rfl, ⟨_, _, _, _, _, rfl, .ty _, (TyX.base (.int z)), kit_ty kit_int_int, _, rfl, ⟨_, _, _, _, _, rfl, .ty _, (TyX.base (.int z)), kit_ty kit_int_int, rfl, _, rfl, iteT ⟨_, rfl, _, rfl, rfl, ?_⟩⟩⟩⟩
        rw [decide_eq_true (rfl : V.int z = V.int z)]
        exact q _ (Same.new (Same.new (Same.refl H) htp) htp2)
      | str z =>
        refine ⟨_, rfl, by show 2 ≤ sizeLine; decide, fun tp htp => ⟨_, _, _, _, [.type "list", .type "tuple"], false, rfl, upd_same, .cons (.ty _) (.cons (.ty _) .nil), TyX.base (.str z), kLTF kit_str_list kit_str_tuple, _, rfl, iteF ?_⟩⟩
        refine ⟨_, rfl, rfl, _, rfl, iteF ⟨_, rfl, rfl, _, rfl, iteF ?_⟩⟩
        refine ⟨_, rfl, ⟨_, _, _, _, _, rfl, .ty _, (TyX.base (.str z)), kit_ty kit_str_bool, _, rfl, iteF ⟨_, rfl, ⟨_, _, _, _, _, rfl, .ty _, (TyX.base (.str z)), kit_ty kit_str_bool, _, rfl, iteF ?_⟩⟩⟩⟩
        refine ⟨_, rfl, by show 2 ≤ sizeLine; decide, fun tp2 htp2 => ⟨_, _, _, _, [.type "list", .type "tuple"], false, rfl, upd_same, .cons (.ty _) (.cons (.ty _) .nil), TyX.base (.str z), kLTF kit_str_list kit_str_tuple, _, rfl, iteF ?_⟩⟩
        refine ⟨_, rfl, ⟨_, _, _, _, _, rfl, .ty _, (TyX.base (.str z)), kit_ty kit_str_str, _, rfl, ⟨_, _, _, _, _, rfl, .ty _, (TyX.base (.str z)), kit_ty kit_str_str, rfl, _, rfl, iteF ?_⟩⟩⟩
        refine ⟨_, rfl, ⟨_, _, _, _, _, rfl, .ty _, (TyX.base (.str z)), kit_ty kit_str_int, _, rfl, ⟨_, _, _, _, _, rfl, .ty _, (TyX.base (.str z)), kit_ty kit_str_int, rfl, _, rfl, iteT ⟨_, rfl, _, rfl, rfl, ?_⟩⟩⟩⟩
        rw [decide_eq_true (rfl : V.str z = V.str z)]
        exact q _ (Same.new (Same.new (Same.refl H) htp) htp2)
      | bl z =>
        refine ⟨_, rfl, by show 2 ≤ sizeLine; decide, fun tp htp => ⟨_, _, _, _, [.type "list", .type "tuple"], false, rfl, upd_same, .cons (.ty _) (.cons (.ty _) .nil), TyX.base (.bl z), kLTF kit_bool_list kit_bool_tuple, _, rfl, iteF ?_⟩⟩
        refine ⟨_, rfl, rfl, _, rfl, iteF ⟨_, rfl, rfl, _, rfl, iteF ?_⟩⟩
        refine ⟨_, rfl, ⟨_, _, _, _, _, rfl, .ty _, (TyX.base (.bl z)), kit_ty kit_bool_bool, _, rfl, iteT ?_⟩⟩
        refine ⟨_, rfl, ⟨_, _, _, _, _, rfl, .ty _, (TyX.base (.bl z)), kit_ty kit_bool_bool, _, rfl, iteT ⟨_, rfl, ⟨_, _, _, _, _, rfl, .ty _, (TyX.base (.bl z)), kit_ty kit_bool_bool, _, rfl, iteT ⟨_, rfl, _, rfl, rfl, ?_⟩⟩⟩⟩⟩
        rw [decide_eq_true (rfl : V.bl z = V.bl z)]
        exact q _ (Same.new (Same.refl H) htp)
      | non =>
        refine ⟨_, rfl, by show 2 ≤ sizeLine; decide, fun tp htp => ⟨_, _, _, _, [.type "list", .type "tuple"], false, rfl, upd_same, .cons (.ty _) (.cons (.ty _) .nil), TyX.base .non, kLTF kit_NoneType_list kit_NoneType_tuple, _, rfl, iteF ?_⟩⟩
        refine ⟨_, rfl, rfl, _, rfl, iteT ?_⟩
        exact ⟨_, rfl, rfl, _, rfl, iteT ⟨_, rfl, rfl, q _ (Same.new (Same.refl H) htp)⟩⟩
      | _ => exact lf.elim
    · obtain rfl : n = k' := Nat.succ.inj hn
      rcases hh with ⟨h1, h2⟩ | ⟨h1, h2⟩
      · skip
        refine ⟨_, rfl, by show 2 ≤ sizeLine; decide, fun tp htp => ⟨_, _, _, _, [.type "list", .type "tuple"], true, rfl, upd_same, .cons (.ty _) (.cons (.ty _) .nil), TyX.base (.lst (Same.new (Same.refl H) htp _ _ h2)), kLTT kit_list_list kit_list_tuple (by decide), _, rfl, iteT ?_⟩⟩
        have s0 := Same.new (o := .tup [.ty "list", .ty "tuple"]) (Same.refl H) htp
        generalize upd H tp (.tup [.ty "list", .ty "tuple"]) = H1 at s0
        have e1 := s0 _ _ h1
        have e2 := s0 _ _ h2
        refine ⟨_, rfl, ⟨_, _, _, _, _, rfl, .ty _, (TyX.base (.lst e1)), kit_ty kit_list_list, _, rfl, ⟨_, _, _, _, _, rfl, .ty _, (TyX.base (.lst e2)), kit_ty kit_list_list, rfl, _, rfl, iteF ?_⟩⟩⟩
        refine ⟨_, rfl, ⟨_, _, _, _, _, rfl, .ty _, (TyX.base (.lst e1)), kit_ty kit_list_tuple, _, rfl, ⟨_, _, _, _, _, rfl, .ty _, (TyX.base (.lst e2)), kit_ty kit_list_tuple, rfl, _, rfl, iteF ?_⟩⟩⟩
        refine ⟨_, rfl, p, xs, rfl, .inl (SqL.of e1), _, rfl, r, xs, rfl, .inl (SqL.of e2), rfl, _, rfl, ?_⟩
        rw [decide_eq_true (rfl : V.int (xs.length : Int) = V.int (xs.length : Int))]
        refine iteT ⟨_, rfl, _, rfl, p, r, xs, xs, rfl, .inl ⟨SqL.of e1, SqL.of e2, fun D hD => ?_⟩⟩
        refine lc_it (n := xs.length) (walk_zip (K := K) (a := p) (b := r) (xs := xs) (ys := xs) (Nat.min_self _).symm) (fun i H' => H' D = some (.lst ((List.replicate i true).map V.bl)) ∧ Same H1 H')
          ⟨upd_same, Same.new (Same.refl H1) hD⟩ (fun i H' _ h => ⟨SqL.of (h.2 _ _ e1), SqL.of (h.2 _ _ e2)⟩) (fun i v H' H2 hi h y => ?_) (fun H' h => ?_)
        · obtain ⟨T2, x1, x2, rfl, hT2, rfl, g1, g2⟩ := y
          have ex : x1 = x2 := Option.some.inj (g1.symm.trans g2)
          subst ex
          have s2 := Same.new (o := .tup [x1, x1]) h.2 hT2
          have hD2 : upd H' T2 (.tup [x1, x1]) D = some (.lst ((List.replicate i true).map V.bl)) := by
            rw [upd_ne (ne_of_none h.1 hT2)]
            exact h.1
          have hm := List.mem_of_getElem? (show xs[i]? = some x1 from g1)
          refine ⟨T2, _, rfl, SqT.of upd_same, rfl, x1, _, rfl, x1, _, rfl, rfl, rfl, _, rfl, _, rfl, x1, x1, rfl, ((hv x1 hm).same (s0.trans s2)).like, fun H3 s3 => ?_⟩
          refine ⟨_, s3 _ _ hD2, ?_, ?_, ?_⟩
          · rw [List.length_map, List.length_replicate, sizeLine_eq]
            omega
          · rw [upd_same, List.replicate_succ', List.map_append]
            rfl
          · refine fun a o e => ?_
            have e3 := s3 _ _ (s2 _ _ e)
            rw [upd_ne (ne_of_none e hD)]
            exact e3
        · refine ⟨D, List.replicate xs.length true, rfl, SqL.of h.1, ?_⟩
          have ea : (List.replicate xs.length true).all id = true := by
            simp
          rw [ea]
          exact q _ (s0.trans h.2)
      · skip
        refine ⟨_, rfl, by show 2 ≤ sizeLine; decide, fun tp htp => ⟨_, _, _, _, [.type "list", .type "tuple"], true, rfl, upd_same, .cons (.ty _) (.cons (.ty _) .nil), TyX.base (.tup (Same.new (Same.refl H) htp _ _ h2)), kLTT kit_tuple_list kit_tuple_tuple (by decide), _, rfl, iteT ?_⟩⟩
        have s0 := Same.new (o := .tup [.ty "list", .ty "tuple"]) (Same.refl H) htp
        generalize upd H tp (.tup [.ty "list", .ty "tuple"]) = H1 at s0
        have e1 := s0 _ _ h1
        have e2 := s0 _ _ h2
        refine ⟨_, rfl, ⟨_, _, _, _, _, rfl, .ty _, (TyX.base (.tup e1)), kit_ty kit_tuple_list, _, rfl, ⟨_, _, _, _, _, rfl, .ty _, (TyX.base (.tup e2)), kit_ty kit_tuple_list, rfl, _, rfl, iteF ?_⟩⟩⟩
        refine ⟨_, rfl, ⟨_, _, _, _, _, rfl, .ty _, (TyX.base (.tup e1)), kit_ty kit_tuple_tuple, _, rfl, ⟨_, _, _, _, _, rfl, .ty _, (TyX.base (.tup e2)), kit_ty kit_tuple_tuple, rfl, _, rfl, iteF ?_⟩⟩⟩
        refine ⟨_, rfl, p, xs, rfl, .inr (SqT.of e1), _, rfl, r, xs, rfl, .inr (SqT.of e2), rfl, _, rfl, ?_⟩
        rw [decide_eq_true (rfl : V.int (xs.length : Int) = V.int (xs.length : Int))]
        refine iteT ⟨_, rfl, _, rfl, p, r, xs, xs, rfl, .inr ⟨SqT.of e1, SqT.of e2, fun D hD => ?_⟩⟩
        refine lc_it (n := xs.length) (walk_zipT (K := K) (a := p) (b := r) (xs := xs) (ys := xs) (Nat.min_self _).symm) (fun i H' => H' D = some (.lst ((List.replicate i true).map V.bl)) ∧ Same H1 H')
          ⟨upd_same, Same.new (Same.refl H1) hD⟩ (fun i H' _ h => ⟨SqT.of (h.2 _ _ e1), SqT.of (h.2 _ _ e2)⟩) (fun i v H' H2 hi h y => ?_) (fun H' h => ?_)
        · obtain ⟨T2, x1, x2, rfl, hT2, rfl, g1, g2⟩ := y
          have ex : x1 = x2 := Option.some.inj (g1.symm.trans g2)
          subst ex
          have s2 := Same.new (o := .tup [x1, x1]) h.2 hT2
          have hD2 : upd H' T2 (.tup [x1, x1]) D = some (.lst ((List.replicate i true).map V.bl)) := by
            rw [upd_ne (ne_of_none h.1 hT2)]
            exact h.1
          have hm := List.mem_of_getElem? (show xs[i]? = some x1 from g1)
          refine ⟨T2, _, rfl, SqT.of upd_same, rfl, x1, _, rfl, x1, _, rfl, rfl, rfl, _, rfl, _, rfl, x1, x1, rfl, ((hv x1 hm).same (s0.trans s2)).like, fun H3 s3 => ?_⟩
          refine ⟨_, s3 _ _ hD2, ?_, ?_, ?_⟩
          · rw [List.length_map, List.length_replicate, sizeLine_eq]
            omega
          · rw [upd_same, List.replicate_succ', List.map_append]
            rfl
          · refine fun a o e => ?_
            have e3 := s3 _ _ (s2 _ _ e)
            rw [upd_ne (ne_of_none e hD)]
            exact e3
        · refine ⟨D, List.replicate xs.length true, rfl, SqL.of h.1, ?_⟩
          have ea : (List.replicate xs.length true).all id = true := by
            simp
          rw [ea]
          exact q _ (s0.trans h.2)
end
end Ko

namespace Ko
open PySem L2 PySem.Spec PyProof.Rows

open PySem.HandSPX (veTail refsVE)
/-- behind the error's __init__: the error with its fields, all else as it was -/
def Made (H H' : Hp) (a C : Addr) (fs : List (Str × V)) : Prop := Err H' a C fs ∧ ∀ p o, p ≠ a → H p = some o → H' p = some o
def spI (C : Addr) (ps : List Str) : Sp := fun vs H Q _ => ∃ (a : Addr) (args : List V), vs = .ref a :: args ∧ args.length = ps.length ∧ H a = some (exo a C none) ∧ ∀ H', Made H H' a C (ps.zip args).reverse → Q .non H'
/-- what the text says of the base -/
structure RTxt (K : PySem.W.Frag) (mg : Str → Option Value) (R : Addr) : Prop where
  g : mg "Refused" = some (.ref R)
  rd : ClX.CRead K R (.type "type")
  vB : PySem.W.findCls K (.ref R) (.type "type") "__init__" = some (.val (.builtin "ValueError.__init__"))
  cR : (PySem.W.clsIn K R).isSome = true
  tR : PySem.W.typeIn K (.ref R) = some (.type "type")
  hn : PySem.W.specialIn K (Value.builtin "object.__class__") "__get__" = some (some (.builtin "getset_descriptor.__get__"))
  ht : PySem.W.takesIn K (Value.builtin "object.__class__") = some true
  sB : PySem.W.subIn K (.ref R) (.type "BaseException") = some true
  dR : PySem.W.hasDictIn K R = true
/-- the class of an error, x by name, at C, its fields ps -/
structure Ecl (K : PySem.W.Frag) (mg : Str → Option Value) (R : Addr) (x : Str) (C : Addr) (ps : List Str) : Prop where
  g : mg x = some (.ref C)
  look : ∃ nm q N bs sn sub ab col dd k0 k1 k2 k3 k5, K.lookup C = some (excClassObj nm q C N bs (.ref R :: veTail) true sn sub ab col dd k0 k1 k2 k3 k5 "ValueError.__new__")
  sa : PySem.W.findIn K (Value.ref C) "__setattr__" = some (some (.builtin "object.__setattr__"))
  ga : PySem.W.findIn K (Value.ref C) "__getattribute__" = some (some (.builtin "BaseException.__getattribute__"))
  gg : PySem.W.findIn K (Value.ref C) "__getattr__" = some none
  gc : PySem.W.findIn K (.ref C) "__class__" = some (some (.builtin "object.__class__"))
  no : ∀ p ∈ ps, PySem.W.findIn K (.ref C) p = some none
  kp : PySem.W.keepIn K (Value.ref C) = true
section
variable {K : PySem.W.Frag} {mg : Str → Option Value} {R C : Addr} {x : Str} {ps : List Str}
theorem Ecl.cls (E : Ecl K mg R x C ps) : ∃ cd : ClassData, PySem.W.clsIn K C = some cd ∧ cd.mro = .ref C :: .ref R :: veTail ∧ cd.hasDict = true ∧ PySem.W.typeIn K (.ref C) = some (.type "type") := by
  obtain ⟨nm, q, N, bs, sn, sub, ab, col, dd, k0, k1, k2, k3, k5, h⟩ := E.look
  refine ⟨{ name := nm, bases := bs, mro := .ref C :: .ref R :: veTail, ns := N, qualname := q, hasDict := true, slotNames := sn, subclasses := sub, abstract := ab, collection := col, hasDel := false }, ?_, rfl, rfl, ?_⟩
  · unfold PySem.W.clsIn
    rw [h]
  · unfold PySem.W.typeIn
    simp only [h]
    first
      | rfl
      | simp [excClassObj]
theorem Ecl.oex (E : Ecl K mg R x C ps) : OexC K C := by
  obtain ⟨cd, h1, h2, h3, h4⟩ := E.cls
  obtain ⟨nm, q, N, bs, sn, sub, ab, col, dd, k0, k1, k2, k3, k5, h⟩ := E.look
  refine ⟨⟨nm, q, N, bs, _, sn, sub, ab, col, dd, k0, k1, k2, k3, k5, h, by rfl⟩, E.sa, ?_, h4, E.kp⟩
  show PySem.W.mroIn K C _ = _
  unfold PySem.W.mroIn
  rw [h1, Option.bind_some, h2]
  rfl
theorem Ecl.xf (E : Ecl K mg R x C ps) : XfC K C := by
  obtain ⟨cd, h1, h2, h3, h4⟩ := E.cls
  refine ⟨E.ga, E.gg, E.oex.exC, ?_⟩
  unfold PySem.W.hasDictIn
  rw [h1]
  simp [h3]
theorem Ecl.xc (E : Ecl K mg R x C ps) (T : RTxt K mg R) : ExcC K C := by
  obtain ⟨cd, h1, h2, h3, h4⟩ := E.cls
  refine ⟨E.ga, E.gg, E.oex.exC, E.xf.hdC, E.gc, T.hn, T.ht, ?_⟩
  unfold PySem.W.mroIn
  rw [h1, Option.bind_some, h2]
  rfl
/-- of the same class -/
theorem Ecl.kit_same (C : Addr) : PySem.W.kitOne K (.ref C) (.ref C) = some true := by
  unfold PySem.W.kitOne
  rw [if_pos (by simp)]
/-- of another class -/
theorem Ecl.kit_other {x' : Str} {C' : Addr} {ps' : List Str} (E : Ecl K mg R x C ps) (E' : Ecl K mg R x' C' ps') (h : C ≠ C') (hR : C' ≠ R) : PySem.W.kitOne K (.ref C) (.ref C') = some false := by
  obtain ⟨cd, h1, h2, h3, h4⟩ := E.cls
  obtain ⟨cd', g1, g2, g3, g4⟩ := E'.cls
  unfold PySem.W.kitOne
  rw [if_neg (by simp [h])]
  show (if ((PySem.W.clsIn K C').isSome && PySem.W.typeIn K (.ref C') == some (.type "type")) = true then PySem.W.subIn K (.ref C) (.ref C') else none) = _
  rw [if_pos (by rw [g1, g4]; rfl)]
  show PySem.W.mroIn K C _ = _
  unfold PySem.W.mroIn
  rw [h1, Option.bind_some, h2]
  have e1 : (Value.ref C == Value.ref C') = false := by simp [h]
  have e2 : (Value.ref R == Value.ref C') = false := by simp [Ne.symm hR]
  simp [h, Ne.symm h, hR, Ne.symm hR]
  try decide
theorem Ecl.kit_base (E : Ecl K mg R x C ps) (T : RTxt K mg R) (hR : C ≠ R) : PySem.W.kitOne K (.ref C) (.ref R) = some true := by
  obtain ⟨cd, h1, h2, h3, h4⟩ := E.cls
  unfold PySem.W.kitOne
  rw [if_neg (by simp [hR])]
  show (if ((PySem.W.clsIn K R).isSome && PySem.W.typeIn K (.ref R) == some (.type "type")) = true then PySem.W.subIn K (.ref C) (.ref R) else none) = _
  rw [if_pos (by rw [T.cR, T.tR]; rfl)]
  show PySem.W.mroIn K C _ = _
  unfold PySem.W.mroIn
  rw [h1, Option.bind_some, h2]
  simp
theorem Ecl.kit_VE (E : Ecl K mg R x C ps) : PySem.W.kitOne K (.ref C) (.type "ValueError") = some true := by
  obtain ⟨cd, h1, h2, h3, h4⟩ := E.cls
  unfold PySem.W.kitOne
  rw [if_neg (show ¬ (Value.ref C == Value.type "ValueError") = true from Bool.false_ne_true)]
  show (if PySem.W.kitMeta "ValueError" = true then PySem.W.subIn K (.ref C) (.type "ValueError") else none) = _
  rw [if_pos (by decide +kernel)]
  show PySem.W.mroIn K C _ = _
  unfold PySem.W.mroIn
  rw [h1, Option.bind_some, h2]
  rfl
end

/-- how such a call binds: by position, by names -/
def Bnd (K : PySem.W.Frag) (fd : FuncData) (ps : List Str) : Prop :=
  KBn K fd ("self" :: ps) (ps.length + 1) [] (fun us ws => us ++ ws) (fun us ws => us ++ ws) ∧ match ps with
    | [p] => KBn K fd ["self", p] 1 [p] (fun us ws => us ++ ws) (fun us ws => us ++ ws)
    | [p, r] => KBn K fd ["self", p, r] 2 [r] (fun us ws => us ++ ws) (fun us ws => us ++ ws) ∧ KBn K fd ["self", p, r] 1 [r, p] (fun us ws => us ++ ws.reverse) (fun us ws => us ++ ws.reverse)
    | _ => True
theorem kb {K : PySem.W.Frag} {x qual : Str} {st : Stmt} {f : Addr} {fd : FuncData} {ps : List Str} (F : Fun K x qual st f fd) (n : Nat) (ks : List Str) (g : {α : Type} → List α → List α → List α)
    (hg : ∀ (vs zs : List V) (us ws : List Value), Vals vs us → Vals zs ws → Vals (g vs zs) (g us ws))
    (h : ∀ (kV doc pm : Value) (an : Option Addr) (cdv ct : Value) (us ws : List Value), us.length = n → ws.length = ks.length →
      bindArgs (PySem.W.fnOf x qual (defArgs st) (defBody st) (defScope st) .none kV doc pm an cdv ct) ⟨us, ks.zip ws⟩ = pure (ps.zip (g us ws))) : KBn K fd ps n ks (fun us ws => g us ws) (fun us ws => g us ws) := by
  obtain ⟨oc, od, kV, doc, pm, an, cdv, ct, osl, rfl, lk, hcode⟩ := F.ex
  exact ⟨fun s us ws X l1 l2 => .of_eq (h kV doc pm an cdv ct us ws l1 l2), fun r1 r2 => hg _ _ _ _ r1 r2⟩
abbrev gApp : {α : Type} → List α → List α → List α := fun us ws => us ++ ws
abbrev gRev : {α : Type} → List α → List α → List α := fun us ws => us ++ ws.reverse
section
variable {P : Program} {w : World} {K : PySem.W.Frag} {mg : Str → Option Value} {base : Heap} {R C f : Addr} {fd : FuncData}
abbrev s_BadNumber : Stmt := inClass (top 2) 0
theorem sc_BadNumber : FnScope ["self", "value"] ["self", "value"] (defScope s_BadNumber) := ⟨rfl, rfl, rfl, by decide +kernel, rfl, by decide +kernel, by decide +kernel⟩
theorem in_BadNumber (F : Fun K "__init__" "BadNumber.__init__" s_BadNumber f fd) (T : RTxt K mg R) (E : Ecl K mg R "BadNumber" C ["value"]) : FnOk P w K mg base CX0 1 f fd ["self", "value"] (spI C ["value"]) := by
  refine F.ok sc_BadNumber (fun vs H Q E h => ?_) (fun cdv A outer s H vs Q X hr h => ?_)
  · obtain ⟨a, args, rfl, hl, _⟩ := h
    simp [hl]
  · obtain ⟨a, args, rfl, hl, ha, q⟩ := h
    match args, hl with
    | [v], _ =>
      refine ⟨_, (pss_cons (ps_expr (pe_base (by rfl) T.g T.rd T.vB (pa_cons (pv 0) (pa_cons pe_str pa_nil))))
      (pss_one (ps_ost (pv 0) (pv 1)))), ?_⟩
      refine ⟨_, rfl, a, C, _, rfl, by show 1 ≤ 1000; decide, E.oex, ha, _, rfl, _, rfl, a, C, rfl, E.oex, E.no _ (by simp), .inl ⟨ha, fun d hd hne => ?_⟩⟩
      exact q _ ⟨.inr ⟨d, hne, upd_same, by rw [upd_ne hne]; exact upd_same⟩, fun p o hp e => by rw [upd_ne hp, upd_ne (ne_of_none e hd)]; exact e⟩
theorem bd_BadNumber (F : Fun K "__init__" "BadNumber.__init__" s_BadNumber f fd) : Bnd K fd ["value"] :=
  ⟨kb F 2 [] gApp (fun _ _ _ _ => Vals.append) (fun _ _ _ _ _ _ us ws l1 l2 => match us, ws, l1, l2 with | [_, _], [], _, _ => rfl), kb F 1 ["value"] gApp (fun _ _ _ _ => Vals.append) (fun _ _ _ _ _ _ us ws l1 l2 => match us, ws, l1, l2 with | [_], [_], _, _ => rfl)⟩
abbrev s_BadRule : Stmt := inClass (top 3) 0
theorem sc_BadRule : FnScope ["self", "rule"] ["self", "rule"] (defScope s_BadRule) := ⟨rfl, rfl, rfl, by decide +kernel, rfl, by decide +kernel, by decide +kernel⟩
theorem in_BadRule (F : Fun K "__init__" "BadRule.__init__" s_BadRule f fd) (T : RTxt K mg R) (E : Ecl K mg R "BadRule" C ["rule"]) : FnOk P w K mg base CX0 1 f fd ["self", "rule"] (spI C ["rule"]) := by
  refine F.ok sc_BadRule (fun vs H Q E h => ?_) (fun cdv A outer s H vs Q X hr h => ?_)
  · obtain ⟨a, args, rfl, hl, _⟩ := h
    simp [hl]
  · obtain ⟨a, args, rfl, hl, ha, q⟩ := h
    match args, hl with
    | [v], _ =>
      refine ⟨_, (pss_cons (ps_expr (pe_base (by rfl) T.g T.rd T.vB (pa_cons (pv 0) (pa_cons pe_str pa_nil))))
      (pss_one (ps_ost (pv 0) (pv 1)))), ?_⟩
      refine ⟨_, rfl, a, C, _, rfl, by show 1 ≤ 1000; decide, E.oex, ha, _, rfl, _, rfl, a, C, rfl, E.oex, E.no _ (by simp), .inl ⟨ha, fun d hd hne => ?_⟩⟩
      exact q _ ⟨.inr ⟨d, hne, upd_same, by rw [upd_ne hne]; exact upd_same⟩, fun p o hp e => by rw [upd_ne hp, upd_ne (ne_of_none e hd)]; exact e⟩
theorem bd_BadRule (F : Fun K "__init__" "BadRule.__init__" s_BadRule f fd) : Bnd K fd ["rule"] :=
  ⟨kb F 2 [] gApp (fun _ _ _ _ => Vals.append) (fun _ _ _ _ _ _ us ws l1 l2 => match us, ws, l1, l2 with | [_, _], [], _, _ => rfl), kb F 1 ["rule"] gApp (fun _ _ _ _ => Vals.append) (fun _ _ _ _ _ _ us ws l1 l2 => match us, ws, l1, l2 with | [_], [_], _, _ => rfl)⟩
abbrev s_BadMode : Stmt := inClass (top 4) 0
theorem sc_BadMode : FnScope ["self", "mode"] ["self", "mode"] (defScope s_BadMode) := ⟨rfl, rfl, rfl, by decide +kernel, rfl, by decide +kernel, by decide +kernel⟩
theorem in_BadMode (F : Fun K "__init__" "BadMode.__init__" s_BadMode f fd) (T : RTxt K mg R) (E : Ecl K mg R "BadMode" C ["mode"]) : FnOk P w K mg base CX0 1 f fd ["self", "mode"] (spI C ["mode"]) := by
  refine F.ok sc_BadMode (fun vs H Q E h => ?_) (fun cdv A outer s H vs Q X hr h => ?_)
  · obtain ⟨a, args, rfl, hl, _⟩ := h
    simp [hl]
  · obtain ⟨a, args, rfl, hl, ha, q⟩ := h
    match args, hl with
    | [v], _ =>
      refine ⟨_, (pss_cons (ps_expr (pe_base (by rfl) T.g T.rd T.vB (pa_cons (pv 0) (pa_cons pe_str pa_nil))))
      (pss_one (ps_ost (pv 0) (pv 1)))), ?_⟩
      refine ⟨_, rfl, a, C, _, rfl, by show 1 ≤ 1000; decide, E.oex, ha, _, rfl, _, rfl, a, C, rfl, E.oex, E.no _ (by simp), .inl ⟨ha, fun d hd hne => ?_⟩⟩
      exact q _ ⟨.inr ⟨d, hne, upd_same, by rw [upd_ne hne]; exact upd_same⟩, fun p o hp e => by rw [upd_ne hp, upd_ne (ne_of_none e hd)]; exact e⟩
theorem bd_BadMode (F : Fun K "__init__" "BadMode.__init__" s_BadMode f fd) : Bnd K fd ["mode"] :=
  ⟨kb F 2 [] gApp (fun _ _ _ _ => Vals.append) (fun _ _ _ _ _ _ us ws l1 l2 => match us, ws, l1, l2 with | [_, _], [], _, _ => rfl), kb F 1 ["mode"] gApp (fun _ _ _ _ => Vals.append) (fun _ _ _ _ _ _ us ws l1 l2 => match us, ws, l1, l2 with | [_], [_], _, _ => rfl)⟩
abbrev s_BadPoint : Stmt := inClass (top 5) 0
theorem sc_BadPoint : FnScope ["self", "point"] ["self", "point"] (defScope s_BadPoint) := ⟨rfl, rfl, rfl, by decide +kernel, rfl, by decide +kernel, by decide +kernel⟩
theorem in_BadPoint (F : Fun K "__init__" "BadPoint.__init__" s_BadPoint f fd) (T : RTxt K mg R) (E : Ecl K mg R "BadPoint" C ["point"]) : FnOk P w K mg base CX0 1 f fd ["self", "point"] (spI C ["point"]) := by
  refine F.ok sc_BadPoint (fun vs H Q E h => ?_) (fun cdv A outer s H vs Q X hr h => ?_)
  · obtain ⟨a, args, rfl, hl, _⟩ := h
    simp [hl]
  · obtain ⟨a, args, rfl, hl, ha, q⟩ := h
    match args, hl with
    | [v], _ =>
      refine ⟨_, (pss_cons (ps_expr (pe_base (by rfl) T.g T.rd T.vB (pa_cons (pv 0) (pa_cons pe_str pa_nil))))
      (pss_one (ps_ost (pv 0) (pv 1)))), ?_⟩
      refine ⟨_, rfl, a, C, _, rfl, by show 1 ≤ 1000; decide, E.oex, ha, _, rfl, _, rfl, a, C, rfl, E.oex, E.no _ (by simp), .inl ⟨ha, fun d hd hne => ?_⟩⟩
      exact q _ ⟨.inr ⟨d, hne, upd_same, by rw [upd_ne hne]; exact upd_same⟩, fun p o hp e => by rw [upd_ne hp, upd_ne (ne_of_none e hd)]; exact e⟩
theorem bd_BadPoint (F : Fun K "__init__" "BadPoint.__init__" s_BadPoint f fd) : Bnd K fd ["point"] :=
  ⟨kb F 2 [] gApp (fun _ _ _ _ => Vals.append) (fun _ _ _ _ _ _ us ws l1 l2 => match us, ws, l1, l2 with | [_, _], [], _, _ => rfl), kb F 1 ["point"] gApp (fun _ _ _ _ => Vals.append) (fun _ _ _ _ _ _ us ws l1 l2 => match us, ws, l1, l2 with | [_], [_], _, _ => rfl)⟩
abbrev s_BadNet : Stmt := inClass (top 6) 0
theorem sc_BadNet : FnScope ["self", "word", "index"] ["self", "word", "index"] (defScope s_BadNet) := ⟨rfl, rfl, rfl, by decide +kernel, rfl, by decide +kernel, by decide +kernel⟩
theorem in_BadNet (F : Fun K "__init__" "BadNet.__init__" s_BadNet f fd) (T : RTxt K mg R) (E : Ecl K mg R "BadNet" C ["word", "index"]) : FnOk P w K mg base CX0 1 f fd ["self", "word", "index"] (spI C ["word", "index"]) := by
  refine F.ok sc_BadNet (fun vs H Q E h => ?_) (fun cdv A outer s H vs Q X hr h => ?_)
  · obtain ⟨a, args, rfl, hl, _⟩ := h
    simp [hl]
  · obtain ⟨a, args, rfl, hl, ha, q⟩ := h
    match args, hl with
    | [v, u], _ =>
      refine ⟨_, (pss_cons (ps_expr (pe_base (by rfl) T.g T.rd T.vB (pa_cons (pv 0) (pa_cons pe_str pa_nil))))
      (pss_cons (ps_ost (pv 0) (pv 1))
      (pss_one (ps_ost (pv 0) (pv 2))))), ?_⟩
      refine ⟨_, rfl, a, C, _, rfl, by show 1 ≤ 1000; decide, E.oex, ha, _, rfl, _, rfl, a, C, rfl, E.oex, E.no _ (by simp), .inl ⟨ha, fun d hd hne => ?_⟩⟩
      refine ⟨_, rfl, _, rfl, a, C, rfl, E.oex, E.no _ (by simp), .inr ⟨d, _, upd_same, by rw [upd_ne hne]; exact upd_same, by show 1 ≤ 900; decide, ?_⟩⟩
      exact q _ ⟨.inr ⟨d, hne, by rw [upd_ne hne.symm]; exact upd_same, upd_same⟩, fun p o hp e => by rw [upd_ne (ne_of_none e hd), upd_ne hp, upd_ne (ne_of_none e hd)]; exact e⟩
theorem bd_BadNet (F : Fun K "__init__" "BadNet.__init__" s_BadNet f fd) : Bnd K fd ["word", "index"] :=
  ⟨kb F 3 [] gApp (fun _ _ _ _ => Vals.append) (fun _ _ _ _ _ _ us ws l1 l2 => match us, ws, l1, l2 with | [_, _, _], [], _, _ => rfl), kb F 2 ["index"] gApp (fun _ _ _ _ => Vals.append) (fun _ _ _ _ _ _ us ws l1 l2 => match us, ws, l1, l2 with | [_, _], [_], _, _ => rfl), kb F 1 ["index", "word"] gRev (fun _ _ _ _ a b => a.append b.reverse) (fun _ _ _ _ _ _ us ws l1 l2 => match us, ws, l1, l2 with | [_], [_, _], _, _ => rfl)⟩
abbrev s_BadLoft : Stmt := inClass (top 7) 0
theorem sc_BadLoft : FnScope ["self"] ["self"] (defScope s_BadLoft) := ⟨rfl, rfl, rfl, by decide +kernel, rfl, by decide +kernel, by decide +kernel⟩
theorem in_BadLoft (F : Fun K "__init__" "BadLoft.__init__" s_BadLoft f fd) (T : RTxt K mg R) (E : Ecl K mg R "BadLoft" C []) : FnOk P w K mg base CX0 1 f fd ["self"] (spI C []) := by
  refine F.ok sc_BadLoft (fun vs H Q E h => ?_) (fun cdv A outer s H vs Q X hr h => ?_)
  · obtain ⟨a, args, rfl, hl, _⟩ := h
    simp [hl]
  · obtain ⟨a, args, rfl, hl, ha, q⟩ := h
    match args, hl with
    | [], _ =>
      refine ⟨_, (pss_one (ps_expr (pe_base (by rfl) T.g T.rd T.vB (pa_cons (pv 0) (pa_cons pe_str pa_nil))))), ?_⟩
      refine ⟨_, rfl, a, C, _, rfl, by show 1 ≤ 1000; decide, E.oex, ha, ?_⟩
      exact q H ⟨.inl ⟨rfl, ha⟩, fun p o _ e => e⟩
theorem bd_BadLoft (F : Fun K "__init__" "BadLoft.__init__" s_BadLoft f fd) : Bnd K fd [] :=
  ⟨kb F 1 [] gApp (fun _ _ _ _ => Vals.append) (fun _ _ _ _ _ _ us ws l1 l2 => match us, ws, l1, l2 with | [_], [], _, _ => rfl), trivial⟩
abbrev s_NotClosed : Stmt := inClass (top 8) 0
theorem sc_NotClosed : FnScope ["self", "edges"] ["self", "edges"] (defScope s_NotClosed) := ⟨rfl, rfl, rfl, by decide +kernel, rfl, by decide +kernel, by decide +kernel⟩
theorem in_NotClosed (F : Fun K "__init__" "NotClosed.__init__" s_NotClosed f fd) (T : RTxt K mg R) (E : Ecl K mg R "NotClosed" C ["edges"]) : FnOk P w K mg base CX0 1 f fd ["self", "edges"] (spI C ["edges"]) := by
  refine F.ok sc_NotClosed (fun vs H Q E h => ?_) (fun cdv A outer s H vs Q X hr h => ?_)
  · obtain ⟨a, args, rfl, hl, _⟩ := h
    simp [hl]
  · obtain ⟨a, args, rfl, hl, ha, q⟩ := h
    match args, hl with
    | [v], _ =>
      refine ⟨_, (pss_cons (ps_expr (pe_base (by rfl) T.g T.rd T.vB (pa_cons (pv 0) (pa_cons pe_str pa_nil))))
      (pss_one (ps_ost (pv 0) (pv 1)))), ?_⟩
      refine ⟨_, rfl, a, C, _, rfl, by show 1 ≤ 1000; decide, E.oex, ha, _, rfl, _, rfl, a, C, rfl, E.oex, E.no _ (by simp), .inl ⟨ha, fun d hd hne => ?_⟩⟩
      exact q _ ⟨.inr ⟨d, hne, upd_same, by rw [upd_ne hne]; exact upd_same⟩, fun p o hp e => by rw [upd_ne hp, upd_ne (ne_of_none e hd)]; exact e⟩
theorem bd_NotClosed (F : Fun K "__init__" "NotClosed.__init__" s_NotClosed f fd) : Bnd K fd ["edges"] :=
  ⟨kb F 2 [] gApp (fun _ _ _ _ => Vals.append) (fun _ _ _ _ _ _ us ws l1 l2 => match us, ws, l1, l2 with | [_, _], [], _, _ => rfl), kb F 1 ["edges"] gApp (fun _ _ _ _ => Vals.append) (fun _ _ _ _ _ _ us ws l1 l2 => match us, ws, l1, l2 with | [_], [_], _, _ => rfl)⟩
abbrev s_NotTwo : Stmt := inClass (top 9) 0
theorem sc_NotTwo : FnScope ["self", "edge"] ["self", "edge"] (defScope s_NotTwo) := ⟨rfl, rfl, rfl, by decide +kernel, rfl, by decide +kernel, by decide +kernel⟩
theorem in_NotTwo (F : Fun K "__init__" "NotTwo.__init__" s_NotTwo f fd) (T : RTxt K mg R) (E : Ecl K mg R "NotTwo" C ["edge"]) : FnOk P w K mg base CX0 1 f fd ["self", "edge"] (spI C ["edge"]) := by
  refine F.ok sc_NotTwo (fun vs H Q E h => ?_) (fun cdv A outer s H vs Q X hr h => ?_)
  · obtain ⟨a, args, rfl, hl, _⟩ := h
    simp [hl]
  · obtain ⟨a, args, rfl, hl, ha, q⟩ := h
    match args, hl with
    | [v], _ =>
      refine ⟨_, (pss_cons (ps_expr (pe_base (by rfl) T.g T.rd T.vB (pa_cons (pv 0) (pa_cons pe_str pa_nil))))
      (pss_one (ps_ost (pv 0) (pv 1)))), ?_⟩
      refine ⟨_, rfl, a, C, _, rfl, by show 1 ≤ 1000; decide, E.oex, ha, _, rfl, _, rfl, a, C, rfl, E.oex, E.no _ (by simp), .inl ⟨ha, fun d hd hne => ?_⟩⟩
      exact q _ ⟨.inr ⟨d, hne, upd_same, by rw [upd_ne hne]; exact upd_same⟩, fun p o hp e => by rw [upd_ne hp, upd_ne (ne_of_none e hd)]; exact e⟩
theorem bd_NotTwo (F : Fun K "__init__" "NotTwo.__init__" s_NotTwo f fd) : Bnd K fd ["edge"] :=
  ⟨kb F 2 [] gApp (fun _ _ _ _ => Vals.append) (fun _ _ _ _ _ _ us ws l1 l2 => match us, ws, l1, l2 with | [_, _], [], _, _ => rfl), kb F 1 ["edge"] gApp (fun _ _ _ _ => Vals.append) (fun _ _ _ _ _ _ us ws l1 l2 => match us, ws, l1, l2 with | [_], [_], _, _ => rfl)⟩
abbrev s_Twisted : Stmt := inClass (top 10) 0
theorem sc_Twisted : FnScope ["self", "faces"] ["self", "faces"] (defScope s_Twisted) := ⟨rfl, rfl, rfl, by decide +kernel, rfl, by decide +kernel, by decide +kernel⟩
theorem in_Twisted (F : Fun K "__init__" "Twisted.__init__" s_Twisted f fd) (T : RTxt K mg R) (E : Ecl K mg R "Twisted" C ["faces"]) : FnOk P w K mg base CX0 1 f fd ["self", "faces"] (spI C ["faces"]) := by
  refine F.ok sc_Twisted (fun vs H Q E h => ?_) (fun cdv A outer s H vs Q X hr h => ?_)
  · obtain ⟨a, args, rfl, hl, _⟩ := h
    simp [hl]
  · obtain ⟨a, args, rfl, hl, ha, q⟩ := h
    match args, hl with
    | [v], _ =>
      refine ⟨_, (pss_cons (ps_expr (pe_base (by rfl) T.g T.rd T.vB (pa_cons (pv 0) (pa_cons pe_str pa_nil))))
      (pss_one (ps_ost (pv 0) (pv 1)))), ?_⟩
      refine ⟨_, rfl, a, C, _, rfl, by show 1 ≤ 1000; decide, E.oex, ha, _, rfl, _, rfl, a, C, rfl, E.oex, E.no _ (by simp), .inl ⟨ha, fun d hd hne => ?_⟩⟩
      exact q _ ⟨.inr ⟨d, hne, upd_same, by rw [upd_ne hne]; exact upd_same⟩, fun p o hp e => by rw [upd_ne hp, upd_ne (ne_of_none e hd)]; exact e⟩
theorem bd_Twisted (F : Fun K "__init__" "Twisted.__init__" s_Twisted f fd) : Bnd K fd ["faces"] :=
  ⟨kb F 2 [] gApp (fun _ _ _ _ => Vals.append) (fun _ _ _ _ _ _ us ws l1 l2 => match us, ws, l1, l2 with | [_, _], [], _, _ => rfl), kb F 1 ["faces"] gApp (fun _ _ _ _ => Vals.append) (fun _ _ _ _ _ _ us ws l1 l2 => match us, ws, l1, l2 with | [_], [_], _, _ => rfl)⟩
abbrev s_Singular : Stmt := inClass (top 11) 0
theorem sc_Singular : FnScope ["self"] ["self"] (defScope s_Singular) := ⟨rfl, rfl, rfl, by decide +kernel, rfl, by decide +kernel, by decide +kernel⟩
theorem in_Singular (F : Fun K "__init__" "Singular.__init__" s_Singular f fd) (T : RTxt K mg R) (E : Ecl K mg R "Singular" C []) : FnOk P w K mg base CX0 1 f fd ["self"] (spI C []) := by
  refine F.ok sc_Singular (fun vs H Q E h => ?_) (fun cdv A outer s H vs Q X hr h => ?_)
  · obtain ⟨a, args, rfl, hl, _⟩ := h
    simp [hl]
  · obtain ⟨a, args, rfl, hl, ha, q⟩ := h
    match args, hl with
    | [], _ =>
      refine ⟨_, (pss_one (ps_expr (pe_base (by rfl) T.g T.rd T.vB (pa_cons (pv 0) (pa_cons pe_str pa_nil))))), ?_⟩
      refine ⟨_, rfl, a, C, _, rfl, by show 1 ≤ 1000; decide, E.oex, ha, ?_⟩
      exact q H ⟨.inl ⟨rfl, ha⟩, fun p o _ e => e⟩
theorem bd_Singular (F : Fun K "__init__" "Singular.__init__" s_Singular f fd) : Bnd K fd [] :=
  ⟨kb F 1 [] gApp (fun _ _ _ _ => Vals.append) (fun _ _ _ _ _ _ us ws l1 l2 => match us, ws, l1, l2 with | [_], [], _, _ => rfl), trivial⟩
abbrev s_BadHeights : Stmt := inClass (top 12) 0
theorem sc_BadHeights : FnScope ["self"] ["self"] (defScope s_BadHeights) := ⟨rfl, rfl, rfl, by decide +kernel, rfl, by decide +kernel, by decide +kernel⟩
theorem in_BadHeights (F : Fun K "__init__" "BadHeights.__init__" s_BadHeights f fd) (T : RTxt K mg R) (E : Ecl K mg R "BadHeights" C []) : FnOk P w K mg base CX0 1 f fd ["self"] (spI C []) := by
  refine F.ok sc_BadHeights (fun vs H Q E h => ?_) (fun cdv A outer s H vs Q X hr h => ?_)
  · obtain ⟨a, args, rfl, hl, _⟩ := h
    simp [hl]
  · obtain ⟨a, args, rfl, hl, ha, q⟩ := h
    match args, hl with
    | [], _ =>
      refine ⟨_, (pss_one (ps_expr (pe_base (by rfl) T.g T.rd T.vB (pa_cons (pv 0) (pa_cons pe_str pa_nil))))), ?_⟩
      refine ⟨_, rfl, a, C, _, rfl, by show 1 ≤ 1000; decide, E.oex, ha, ?_⟩
      exact q H ⟨.inl ⟨rfl, ha⟩, fun p o _ e => e⟩
theorem bd_BadHeights (F : Fun K "__init__" "BadHeights.__init__" s_BadHeights f fd) : Bnd K fd [] :=
  ⟨kb F 1 [] gApp (fun _ _ _ _ => Vals.append) (fun _ _ _ _ _ _ us ws l1 l2 => match us, ws, l1, l2 with | [_], [], _, _ => rfl), trivial⟩
abbrev s_BadSetup : Stmt := inClass (top 13) 0
theorem sc_BadSetup : FnScope ["self", "word"] ["self", "word"] (defScope s_BadSetup) := ⟨rfl, rfl, rfl, by decide +kernel, rfl, by decide +kernel, by decide +kernel⟩
theorem in_BadSetup (F : Fun K "__init__" "BadSetup.__init__" s_BadSetup f fd) (T : RTxt K mg R) (E : Ecl K mg R "BadSetup" C ["word"]) : FnOk P w K mg base CX0 1 f fd ["self", "word"] (spI C ["word"]) := by
  refine F.ok sc_BadSetup (fun vs H Q E h => ?_) (fun cdv A outer s H vs Q X hr h => ?_)
  · obtain ⟨a, args, rfl, hl, _⟩ := h
    simp [hl]
  · obtain ⟨a, args, rfl, hl, ha, q⟩ := h
    match args, hl with
    | [v], _ =>
      refine ⟨_, (pss_cons (ps_expr (pe_base (by rfl) T.g T.rd T.vB (pa_cons (pv 0) (pa_cons pe_str pa_nil))))
      (pss_one (ps_ost (pv 0) (pv 1)))), ?_⟩
      refine ⟨_, rfl, a, C, _, rfl, by show 1 ≤ 1000; decide, E.oex, ha, _, rfl, _, rfl, a, C, rfl, E.oex, E.no _ (by simp), .inl ⟨ha, fun d hd hne => ?_⟩⟩
      exact q _ ⟨.inr ⟨d, hne, upd_same, by rw [upd_ne hne]; exact upd_same⟩, fun p o hp e => by rw [upd_ne hp, upd_ne (ne_of_none e hd)]; exact e⟩
theorem bd_BadSetup (F : Fun K "__init__" "BadSetup.__init__" s_BadSetup f fd) : Bnd K fd ["word"] :=
  ⟨kb F 2 [] gApp (fun _ _ _ _ => Vals.append) (fun _ _ _ _ _ _ us ws l1 l2 => match us, ws, l1, l2 with | [_, _], [], _, _ => rfl), kb F 1 ["word"] gApp (fun _ _ _ _ => Vals.append) (fun _ _ _ _ _ _ us ws l1 l2 => match us, ws, l1, l2 with | [_], [_], _, _ => rfl)⟩
abbrev s_BadLayers : Stmt := inClass (top 14) 0
theorem sc_BadLayers : FnScope ["self", "layer"] ["self", "layer"] (defScope s_BadLayers) := ⟨rfl, rfl, rfl, by decide +kernel, rfl, by decide +kernel, by decide +kernel⟩
theorem in_BadLayers (F : Fun K "__init__" "BadLayers.__init__" s_BadLayers f fd) (T : RTxt K mg R) (E : Ecl K mg R "BadLayers" C ["layer"]) : FnOk P w K mg base CX0 1 f fd ["self", "layer"] (spI C ["layer"]) := by
  refine F.ok sc_BadLayers (fun vs H Q E h => ?_) (fun cdv A outer s H vs Q X hr h => ?_)
  · obtain ⟨a, args, rfl, hl, _⟩ := h
    simp [hl]
  · obtain ⟨a, args, rfl, hl, ha, q⟩ := h
    match args, hl with
    | [v], _ =>
      refine ⟨_, (pss_cons (ps_expr (pe_base (by rfl) T.g T.rd T.vB (pa_cons (pv 0) (pa_cons pe_str pa_nil))))
      (pss_one (ps_ost (pv 0) (pv 1)))), ?_⟩
      refine ⟨_, rfl, a, C, _, rfl, by show 1 ≤ 1000; decide, E.oex, ha, _, rfl, _, rfl, a, C, rfl, E.oex, E.no _ (by simp), .inl ⟨ha, fun d hd hne => ?_⟩⟩
      exact q _ ⟨.inr ⟨d, hne, upd_same, by rw [upd_ne hne]; exact upd_same⟩, fun p o hp e => by rw [upd_ne hp, upd_ne (ne_of_none e hd)]; exact e⟩
theorem bd_BadLayers (F : Fun K "__init__" "BadLayers.__init__" s_BadLayers f fd) : Bnd K fd ["layer"] :=
  ⟨kb F 2 [] gApp (fun _ _ _ _ => Vals.append) (fun _ _ _ _ _ _ us ws l1 l2 => match us, ws, l1, l2 with | [_, _], [], _, _ => rfl), kb F 1 ["layer"] gApp (fun _ _ _ _ => Vals.append) (fun _ _ _ _ _ _ us ws l1 l2 => match us, ws, l1, l2 with | [_], [_], _, _ => rfl)⟩
abbrev s_NoPoint : Stmt := inClass (top 15) 0
theorem sc_NoPoint : FnScope ["self", "layer", "point"] ["self", "layer", "point"] (defScope s_NoPoint) := ⟨rfl, rfl, rfl, by decide +kernel, rfl, by decide +kernel, by decide +kernel⟩
theorem in_NoPoint (F : Fun K "__init__" "NoPoint.__init__" s_NoPoint f fd) (T : RTxt K mg R) (E : Ecl K mg R "NoPoint" C ["layer", "point"]) : FnOk P w K mg base CX0 1 f fd ["self", "layer", "point"] (spI C ["layer", "point"]) := by
  refine F.ok sc_NoPoint (fun vs H Q E h => ?_) (fun cdv A outer s H vs Q X hr h => ?_)
  · obtain ⟨a, args, rfl, hl, _⟩ := h
    simp [hl]
  · obtain ⟨a, args, rfl, hl, ha, q⟩ := h
    match args, hl with
    | [v, u], _ =>
      refine ⟨_, (pss_cons (ps_expr (pe_base (by rfl) T.g T.rd T.vB (pa_cons (pv 0) (pa_cons pe_str pa_nil))))
      (pss_cons (ps_ost (pv 0) (pv 1))
      (pss_one (ps_ost (pv 0) (pv 2))))), ?_⟩
      refine ⟨_, rfl, a, C, _, rfl, by show 1 ≤ 1000; decide, E.oex, ha, _, rfl, _, rfl, a, C, rfl, E.oex, E.no _ (by simp), .inl ⟨ha, fun d hd hne => ?_⟩⟩
      refine ⟨_, rfl, _, rfl, a, C, rfl, E.oex, E.no _ (by simp), .inr ⟨d, _, upd_same, by rw [upd_ne hne]; exact upd_same, by show 1 ≤ 900; decide, ?_⟩⟩
      exact q _ ⟨.inr ⟨d, hne, by rw [upd_ne hne.symm]; exact upd_same, upd_same⟩, fun p o hp e => by rw [upd_ne (ne_of_none e hd), upd_ne hp, upd_ne (ne_of_none e hd)]; exact e⟩
theorem bd_NoPoint (F : Fun K "__init__" "NoPoint.__init__" s_NoPoint f fd) : Bnd K fd ["layer", "point"] :=
  ⟨kb F 3 [] gApp (fun _ _ _ _ => Vals.append) (fun _ _ _ _ _ _ us ws l1 l2 => match us, ws, l1, l2 with | [_, _, _], [], _, _ => rfl), kb F 2 ["point"] gApp (fun _ _ _ _ => Vals.append) (fun _ _ _ _ _ _ us ws l1 l2 => match us, ws, l1, l2 with | [_, _], [_], _, _ => rfl), kb F 1 ["point", "layer"] gRev (fun _ _ _ _ a b => a.append b.reverse) (fun _ _ _ _ _ _ us ws l1 l2 => match us, ws, l1, l2 with | [_], [_, _], _, _ => rfl)⟩
abbrev s_Laid : Stmt := inClass (top 16) 0
theorem sc_Laid : FnScope ["self", "layer", "point"] ["self", "layer", "point"] (defScope s_Laid) := ⟨rfl, rfl, rfl, by decide +kernel, rfl, by decide +kernel, by decide +kernel⟩
theorem in_Laid (F : Fun K "__init__" "Laid.__init__" s_Laid f fd) (T : RTxt K mg R) (E : Ecl K mg R "Laid" C ["layer", "point"]) : FnOk P w K mg base CX0 1 f fd ["self", "layer", "point"] (spI C ["layer", "point"]) := by
  refine F.ok sc_Laid (fun vs H Q E h => ?_) (fun cdv A outer s H vs Q X hr h => ?_)
  · obtain ⟨a, args, rfl, hl, _⟩ := h
    simp [hl]
  · obtain ⟨a, args, rfl, hl, ha, q⟩ := h
    match args, hl with
    | [v, u], _ =>
      refine ⟨_, (pss_cons (ps_expr (pe_base (by rfl) T.g T.rd T.vB (pa_cons (pv 0) (pa_cons pe_str pa_nil))))
      (pss_cons (ps_ost (pv 0) (pv 1))
      (pss_one (ps_ost (pv 0) (pv 2))))), ?_⟩
      refine ⟨_, rfl, a, C, _, rfl, by show 1 ≤ 1000; decide, E.oex, ha, _, rfl, _, rfl, a, C, rfl, E.oex, E.no _ (by simp), .inl ⟨ha, fun d hd hne => ?_⟩⟩
      refine ⟨_, rfl, _, rfl, a, C, rfl, E.oex, E.no _ (by simp), .inr ⟨d, _, upd_same, by rw [upd_ne hne]; exact upd_same, by show 1 ≤ 900; decide, ?_⟩⟩
      exact q _ ⟨.inr ⟨d, hne, by rw [upd_ne hne.symm]; exact upd_same, upd_same⟩, fun p o hp e => by rw [upd_ne (ne_of_none e hd), upd_ne hp, upd_ne (ne_of_none e hd)]; exact e⟩
theorem bd_Laid (F : Fun K "__init__" "Laid.__init__" s_Laid f fd) : Bnd K fd ["layer", "point"] :=
  ⟨kb F 3 [] gApp (fun _ _ _ _ => Vals.append) (fun _ _ _ _ _ _ us ws l1 l2 => match us, ws, l1, l2 with | [_, _, _], [], _, _ => rfl), kb F 2 ["point"] gApp (fun _ _ _ _ => Vals.append) (fun _ _ _ _ _ _ us ws l1 l2 => match us, ws, l1, l2 with | [_, _], [_], _, _ => rfl), kb F 1 ["point", "layer"] gRev (fun _ _ _ _ a b => a.append b.reverse) (fun _ _ _ _ _ _ us ws l1 l2 => match us, ws, l1, l2 with | [_], [_, _], _, _ => rfl)⟩
abbrev s_NoProp : Stmt := inClass (top 17) 0
theorem sc_NoProp : FnScope ["self", "layer", "point"] ["self", "layer", "point"] (defScope s_NoProp) := ⟨rfl, rfl, rfl, by decide +kernel, rfl, by decide +kernel, by decide +kernel⟩
theorem in_NoProp (F : Fun K "__init__" "NoProp.__init__" s_NoProp f fd) (T : RTxt K mg R) (E : Ecl K mg R "NoProp" C ["layer", "point"]) : FnOk P w K mg base CX0 1 f fd ["self", "layer", "point"] (spI C ["layer", "point"]) := by
  refine F.ok sc_NoProp (fun vs H Q E h => ?_) (fun cdv A outer s H vs Q X hr h => ?_)
  · obtain ⟨a, args, rfl, hl, _⟩ := h
    simp [hl]
  · obtain ⟨a, args, rfl, hl, ha, q⟩ := h
    match args, hl with
    | [v, u], _ =>
      refine ⟨_, (pss_cons (ps_expr (pe_base (by rfl) T.g T.rd T.vB (pa_cons (pv 0) (pa_cons pe_str pa_nil))))
      (pss_cons (ps_ost (pv 0) (pv 1))
      (pss_one (ps_ost (pv 0) (pv 2))))), ?_⟩
      refine ⟨_, rfl, a, C, _, rfl, by show 1 ≤ 1000; decide, E.oex, ha, _, rfl, _, rfl, a, C, rfl, E.oex, E.no _ (by simp), .inl ⟨ha, fun d hd hne => ?_⟩⟩
      refine ⟨_, rfl, _, rfl, a, C, rfl, E.oex, E.no _ (by simp), .inr ⟨d, _, upd_same, by rw [upd_ne hne]; exact upd_same, by show 1 ≤ 900; decide, ?_⟩⟩
      exact q _ ⟨.inr ⟨d, hne, by rw [upd_ne hne.symm]; exact upd_same, upd_same⟩, fun p o hp e => by rw [upd_ne (ne_of_none e hd), upd_ne hp, upd_ne (ne_of_none e hd)]; exact e⟩
theorem bd_NoProp (F : Fun K "__init__" "NoProp.__init__" s_NoProp f fd) : Bnd K fd ["layer", "point"] :=
  ⟨kb F 3 [] gApp (fun _ _ _ _ => Vals.append) (fun _ _ _ _ _ _ us ws l1 l2 => match us, ws, l1, l2 with | [_, _, _], [], _, _ => rfl), kb F 2 ["point"] gApp (fun _ _ _ _ => Vals.append) (fun _ _ _ _ _ _ us ws l1 l2 => match us, ws, l1, l2 with | [_, _], [_], _, _ => rfl), kb F 1 ["point", "layer"] gRev (fun _ _ _ _ a b => a.append b.reverse) (fun _ _ _ _ _ _ us ws l1 l2 => match us, ws, l1, l2 with | [_], [_, _], _, _ => rfl)⟩
abbrev s_BadFilling : Stmt := inClass (top 18) 0
theorem sc_BadFilling : FnScope ["self", "filling"] ["self", "filling"] (defScope s_BadFilling) := ⟨rfl, rfl, rfl, by decide +kernel, rfl, by decide +kernel, by decide +kernel⟩
theorem in_BadFilling (F : Fun K "__init__" "BadFilling.__init__" s_BadFilling f fd) (T : RTxt K mg R) (E : Ecl K mg R "BadFilling" C ["filling"]) : FnOk P w K mg base CX0 1 f fd ["self", "filling"] (spI C ["filling"]) := by
  refine F.ok sc_BadFilling (fun vs H Q E h => ?_) (fun cdv A outer s H vs Q X hr h => ?_)
  · obtain ⟨a, args, rfl, hl, _⟩ := h
    simp [hl]
  · obtain ⟨a, args, rfl, hl, ha, q⟩ := h
    match args, hl with
    | [v], _ =>
      refine ⟨_, (pss_cons (ps_expr (pe_base (by rfl) T.g T.rd T.vB (pa_cons (pv 0) (pa_cons pe_str pa_nil))))
      (pss_one (ps_ost (pv 0) (pv 1)))), ?_⟩
      refine ⟨_, rfl, a, C, _, rfl, by show 1 ≤ 1000; decide, E.oex, ha, _, rfl, _, rfl, a, C, rfl, E.oex, E.no _ (by simp), .inl ⟨ha, fun d hd hne => ?_⟩⟩
      exact q _ ⟨.inr ⟨d, hne, upd_same, by rw [upd_ne hne]; exact upd_same⟩, fun p o hp e => by rw [upd_ne hp, upd_ne (ne_of_none e hd)]; exact e⟩
theorem bd_BadFilling (F : Fun K "__init__" "BadFilling.__init__" s_BadFilling f fd) : Bnd K fd ["filling"] :=
  ⟨kb F 2 [] gApp (fun _ _ _ _ => Vals.append) (fun _ _ _ _ _ _ us ws l1 l2 => match us, ws, l1, l2 with | [_, _], [], _, _ => rfl), kb F 1 ["filling"] gApp (fun _ _ _ _ => Vals.append) (fun _ _ _ _ _ _ us ws l1 l2 => match us, ws, l1, l2 with | [_], [_], _, _ => rfl)⟩
abbrev s_BadChooser : Stmt := inClass (top 19) 0
theorem sc_BadChooser : FnScope ["self", "chooser"] ["self", "chooser"] (defScope s_BadChooser) := ⟨rfl, rfl, rfl, by decide +kernel, rfl, by decide +kernel, by decide +kernel⟩
theorem in_BadChooser (F : Fun K "__init__" "BadChooser.__init__" s_BadChooser f fd) (T : RTxt K mg R) (E : Ecl K mg R "BadChooser" C ["chooser"]) : FnOk P w K mg base CX0 1 f fd ["self", "chooser"] (spI C ["chooser"]) := by
  refine F.ok sc_BadChooser (fun vs H Q E h => ?_) (fun cdv A outer s H vs Q X hr h => ?_)
  · obtain ⟨a, args, rfl, hl, _⟩ := h
    simp [hl]
  · obtain ⟨a, args, rfl, hl, ha, q⟩ := h
    match args, hl with
    | [v], _ =>
      refine ⟨_, (pss_cons (ps_expr (pe_base (by rfl) T.g T.rd T.vB (pa_cons (pv 0) (pa_cons pe_str pa_nil))))
      (pss_one (ps_ost (pv 0) (pv 1)))), ?_⟩
      refine ⟨_, rfl, a, C, _, rfl, by show 1 ≤ 1000; decide, E.oex, ha, _, rfl, _, rfl, a, C, rfl, E.oex, E.no _ (by simp), .inl ⟨ha, fun d hd hne => ?_⟩⟩
      exact q _ ⟨.inr ⟨d, hne, upd_same, by rw [upd_ne hne]; exact upd_same⟩, fun p o hp e => by rw [upd_ne hp, upd_ne (ne_of_none e hd)]; exact e⟩
theorem bd_BadChooser (F : Fun K "__init__" "BadChooser.__init__" s_BadChooser f fd) : Bnd K fd ["chooser"] :=
  ⟨kb F 2 [] gApp (fun _ _ _ _ => Vals.append) (fun _ _ _ _ _ _ us ws l1 l2 => match us, ws, l1, l2 with | [_, _], [], _, _ => rfl), kb F 1 ["chooser"] gApp (fun _ _ _ _ => Vals.append) (fun _ _ _ _ _ _ us ws l1 l2 => match us, ws, l1, l2 with | [_], [_], _, _ => rfl)⟩
abbrev s_UnknownJob : Stmt := inClass (top 20) 0
theorem sc_UnknownJob : FnScope ["self", "number"] ["self", "number"] (defScope s_UnknownJob) := ⟨rfl, rfl, rfl, by decide +kernel, rfl, by decide +kernel, by decide +kernel⟩
theorem in_UnknownJob (F : Fun K "__init__" "UnknownJob.__init__" s_UnknownJob f fd) (T : RTxt K mg R) (E : Ecl K mg R "UnknownJob" C ["number"]) : FnOk P w K mg base CX0 1 f fd ["self", "number"] (spI C ["number"]) := by
  refine F.ok sc_UnknownJob (fun vs H Q E h => ?_) (fun cdv A outer s H vs Q X hr h => ?_)
  · obtain ⟨a, args, rfl, hl, _⟩ := h
    simp [hl]
  · obtain ⟨a, args, rfl, hl, ha, q⟩ := h
    match args, hl with
    | [v], _ =>
      refine ⟨_, (pss_cons (ps_expr (pe_base (by rfl) T.g T.rd T.vB (pa_cons (pv 0) (pa_cons pe_str pa_nil))))
      (pss_one (ps_ost (pv 0) (pv 1)))), ?_⟩
      refine ⟨_, rfl, a, C, _, rfl, by show 1 ≤ 1000; decide, E.oex, ha, _, rfl, _, rfl, a, C, rfl, E.oex, E.no _ (by simp), .inl ⟨ha, fun d hd hne => ?_⟩⟩
      exact q _ ⟨.inr ⟨d, hne, upd_same, by rw [upd_ne hne]; exact upd_same⟩, fun p o hp e => by rw [upd_ne hp, upd_ne (ne_of_none e hd)]; exact e⟩
theorem bd_UnknownJob (F : Fun K "__init__" "UnknownJob.__init__" s_UnknownJob f fd) : Bnd K fd ["number"] :=
  ⟨kb F 2 [] gApp (fun _ _ _ _ => Vals.append) (fun _ _ _ _ _ _ us ws l1 l2 => match us, ws, l1, l2 with | [_, _], [], _, _ => rfl), kb F 1 ["number"] gApp (fun _ _ _ _ => Vals.append) (fun _ _ _ _ _ _ us ws l1 l2 => match us, ws, l1, l2 with | [_], [_], _, _ => rfl)⟩
abbrev s_NotReady : Stmt := inClass (top 21) 0
theorem sc_NotReady : FnScope ["self", "number"] ["self", "number"] (defScope s_NotReady) := ⟨rfl, rfl, rfl, by decide +kernel, rfl, by decide +kernel, by decide +kernel⟩
theorem in_NotReady (F : Fun K "__init__" "NotReady.__init__" s_NotReady f fd) (T : RTxt K mg R) (E : Ecl K mg R "NotReady" C ["number"]) : FnOk P w K mg base CX0 1 f fd ["self", "number"] (spI C ["number"]) := by
  refine F.ok sc_NotReady (fun vs H Q E h => ?_) (fun cdv A outer s H vs Q X hr h => ?_)
  · obtain ⟨a, args, rfl, hl, _⟩ := h
    simp [hl]
  · obtain ⟨a, args, rfl, hl, ha, q⟩ := h
    match args, hl with
    | [v], _ =>
      refine ⟨_, (pss_cons (ps_expr (pe_base (by rfl) T.g T.rd T.vB (pa_cons (pv 0) (pa_cons pe_str pa_nil))))
      (pss_one (ps_ost (pv 0) (pv 1)))), ?_⟩
      refine ⟨_, rfl, a, C, _, rfl, by show 1 ≤ 1000; decide, E.oex, ha, _, rfl, _, rfl, a, C, rfl, E.oex, E.no _ (by simp), .inl ⟨ha, fun d hd hne => ?_⟩⟩
      exact q _ ⟨.inr ⟨d, hne, upd_same, by rw [upd_ne hne]; exact upd_same⟩, fun p o hp e => by rw [upd_ne hp, upd_ne (ne_of_none e hd)]; exact e⟩
theorem bd_NotReady (F : Fun K "__init__" "NotReady.__init__" s_NotReady f fd) : Bnd K fd ["number"] :=
  ⟨kb F 2 [] gApp (fun _ _ _ _ => Vals.append) (fun _ _ _ _ _ _ us ws l1 l2 => match us, ws, l1, l2 with | [_, _], [], _, _ => rfl), kb F 1 ["number"] gApp (fun _ _ _ _ => Vals.append) (fun _ _ _ _ _ _ us ws l1 l2 => match us, ws, l1, l2 with | [_], [_], _, _ => rfl)⟩
abbrev s_AllDone : Stmt := inClass (top 22) 0
theorem sc_AllDone : FnScope ["self"] ["self"] (defScope s_AllDone) := ⟨rfl, rfl, rfl, by decide +kernel, rfl, by decide +kernel, by decide +kernel⟩
theorem in_AllDone (F : Fun K "__init__" "AllDone.__init__" s_AllDone f fd) (T : RTxt K mg R) (E : Ecl K mg R "AllDone" C []) : FnOk P w K mg base CX0 1 f fd ["self"] (spI C []) := by
  refine F.ok sc_AllDone (fun vs H Q E h => ?_) (fun cdv A outer s H vs Q X hr h => ?_)
  · obtain ⟨a, args, rfl, hl, _⟩ := h
    simp [hl]
  · obtain ⟨a, args, rfl, hl, ha, q⟩ := h
    match args, hl with
    | [], _ =>
      refine ⟨_, (pss_one (ps_expr (pe_base (by rfl) T.g T.rd T.vB (pa_cons (pv 0) (pa_cons pe_str pa_nil))))), ?_⟩
      refine ⟨_, rfl, a, C, _, rfl, by show 1 ≤ 1000; decide, E.oex, ha, ?_⟩
      exact q H ⟨.inl ⟨rfl, ha⟩, fun p o _ e => e⟩
theorem bd_AllDone (F : Fun K "__init__" "AllDone.__init__" s_AllDone f fd) : Bnd K fd [] :=
  ⟨kb F 1 [] gApp (fun _ _ _ _ => Vals.append) (fun _ _ _ _ _ _ us ws l1 l2 => match us, ws, l1, l2 with | [_], [], _, _ => rfl), trivial⟩
abbrev s_BadIndex : Stmt := inClass (top 23) 0
theorem sc_BadIndex : FnScope ["self", "index"] ["self", "index"] (defScope s_BadIndex) := ⟨rfl, rfl, rfl, by decide +kernel, rfl, by decide +kernel, by decide +kernel⟩
theorem in_BadIndex (F : Fun K "__init__" "BadIndex.__init__" s_BadIndex f fd) (T : RTxt K mg R) (E : Ecl K mg R "BadIndex" C ["index"]) : FnOk P w K mg base CX0 1 f fd ["self", "index"] (spI C ["index"]) := by
  refine F.ok sc_BadIndex (fun vs H Q E h => ?_) (fun cdv A outer s H vs Q X hr h => ?_)
  · obtain ⟨a, args, rfl, hl, _⟩ := h
    simp [hl]
  · obtain ⟨a, args, rfl, hl, ha, q⟩ := h
    match args, hl with
    | [v], _ =>
      refine ⟨_, (pss_cons (ps_expr (pe_base (by rfl) T.g T.rd T.vB (pa_cons (pv 0) (pa_cons pe_str pa_nil))))
      (pss_one (ps_ost (pv 0) (pv 1)))), ?_⟩
      refine ⟨_, rfl, a, C, _, rfl, by show 1 ≤ 1000; decide, E.oex, ha, _, rfl, _, rfl, a, C, rfl, E.oex, E.no _ (by simp), .inl ⟨ha, fun d hd hne => ?_⟩⟩
      exact q _ ⟨.inr ⟨d, hne, upd_same, by rw [upd_ne hne]; exact upd_same⟩, fun p o hp e => by rw [upd_ne hp, upd_ne (ne_of_none e hd)]; exact e⟩
theorem bd_BadIndex (F : Fun K "__init__" "BadIndex.__init__" s_BadIndex f fd) : Bnd K fd ["index"] :=
  ⟨kb F 2 [] gApp (fun _ _ _ _ => Vals.append) (fun _ _ _ _ _ _ us ws l1 l2 => match us, ws, l1, l2 with | [_, _], [], _, _ => rfl), kb F 1 ["index"] gApp (fun _ _ _ _ => Vals.append) (fun _ _ _ _ _ _ us ws l1 l2 => match us, ws, l1, l2 with | [_], [_], _, _ => rfl)⟩
abbrev s_NotOrder : Stmt := inClass (top 24) 0
theorem sc_NotOrder : FnScope ["self"] ["self"] (defScope s_NotOrder) := ⟨rfl, rfl, rfl, by decide +kernel, rfl, by decide +kernel, by decide +kernel⟩
theorem in_NotOrder (F : Fun K "__init__" "NotOrder.__init__" s_NotOrder f fd) (T : RTxt K mg R) (E : Ecl K mg R "NotOrder" C []) : FnOk P w K mg base CX0 1 f fd ["self"] (spI C []) := by
  refine F.ok sc_NotOrder (fun vs H Q E h => ?_) (fun cdv A outer s H vs Q X hr h => ?_)
  · obtain ⟨a, args, rfl, hl, _⟩ := h
    simp [hl]
  · obtain ⟨a, args, rfl, hl, ha, q⟩ := h
    match args, hl with
    | [], _ =>
      refine ⟨_, (pss_one (ps_expr (pe_base (by rfl) T.g T.rd T.vB (pa_cons (pv 0) (pa_cons pe_str pa_nil))))), ?_⟩
      refine ⟨_, rfl, a, C, _, rfl, by show 1 ≤ 1000; decide, E.oex, ha, ?_⟩
      exact q H ⟨.inl ⟨rfl, ha⟩, fun p o _ e => e⟩
theorem bd_NotOrder (F : Fun K "__init__" "NotOrder.__init__" s_NotOrder f fd) : Bnd K fd [] :=
  ⟨kb F 1 [] gApp (fun _ _ _ _ => Vals.append) (fun _ _ _ _ _ _ us ws l1 l2 => match us, ws, l1, l2 with | [_], [], _, _ => rfl), trivial⟩
abbrev s_Ring : Stmt := inClass (top 25) 0
theorem sc_Ring : FnScope ["self", "bodies"] ["self", "bodies"] (defScope s_Ring) := ⟨rfl, rfl, rfl, by decide +kernel, rfl, by decide +kernel, by decide +kernel⟩
theorem in_Ring (F : Fun K "__init__" "Ring.__init__" s_Ring f fd) (T : RTxt K mg R) (E : Ecl K mg R "Ring" C ["bodies"]) : FnOk P w K mg base CX0 1 f fd ["self", "bodies"] (spI C ["bodies"]) := by
  refine F.ok sc_Ring (fun vs H Q E h => ?_) (fun cdv A outer s H vs Q X hr h => ?_)
  · obtain ⟨a, args, rfl, hl, _⟩ := h
    simp [hl]
  · obtain ⟨a, args, rfl, hl, ha, q⟩ := h
    match args, hl with
    | [v], _ =>
      refine ⟨_, (pss_cons (ps_expr (pe_base (by rfl) T.g T.rd T.vB (pa_cons (pv 0) (pa_cons pe_str pa_nil))))
      (pss_one (ps_ost (pv 0) (pv 1)))), ?_⟩
      refine ⟨_, rfl, a, C, _, rfl, by show 1 ≤ 1000; decide, E.oex, ha, _, rfl, _, rfl, a, C, rfl, E.oex, E.no _ (by simp), .inl ⟨ha, fun d hd hne => ?_⟩⟩
      exact q _ ⟨.inr ⟨d, hne, upd_same, by rw [upd_ne hne]; exact upd_same⟩, fun p o hp e => by rw [upd_ne hp, upd_ne (ne_of_none e hd)]; exact e⟩
theorem bd_Ring (F : Fun K "__init__" "Ring.__init__" s_Ring f fd) : Bnd K fd ["bodies"] :=
  ⟨kb F 2 [] gApp (fun _ _ _ _ => Vals.append) (fun _ _ _ _ _ _ us ws l1 l2 => match us, ws, l1, l2 with | [_, _], [], _, _ => rfl), kb F 1 ["bodies"] gApp (fun _ _ _ _ => Vals.append) (fun _ _ _ _ _ _ us ws l1 l2 => match us, ws, l1, l2 with | [_], [_], _, _ => rfl)⟩
abbrev s_BadRow : Stmt := inClass (top 26) 0
theorem sc_BadRow : FnScope ["self", "row"] ["self", "row"] (defScope s_BadRow) := ⟨rfl, rfl, rfl, by decide +kernel, rfl, by decide +kernel, by decide +kernel⟩
theorem in_BadRow (F : Fun K "__init__" "BadRow.__init__" s_BadRow f fd) (T : RTxt K mg R) (E : Ecl K mg R "BadRow" C ["row"]) : FnOk P w K mg base CX0 1 f fd ["self", "row"] (spI C ["row"]) := by
  refine F.ok sc_BadRow (fun vs H Q E h => ?_) (fun cdv A outer s H vs Q X hr h => ?_)
  · obtain ⟨a, args, rfl, hl, _⟩ := h
    simp [hl]
  · obtain ⟨a, args, rfl, hl, ha, q⟩ := h
    match args, hl with
    | [v], _ =>
      refine ⟨_, (pss_cons (ps_expr (pe_base (by rfl) T.g T.rd T.vB (pa_cons (pv 0) (pa_cons pe_str pa_nil))))
      (pss_one (ps_ost (pv 0) (pv 1)))), ?_⟩
      refine ⟨_, rfl, a, C, _, rfl, by show 1 ≤ 1000; decide, E.oex, ha, _, rfl, _, rfl, a, C, rfl, E.oex, E.no _ (by simp), .inl ⟨ha, fun d hd hne => ?_⟩⟩
      exact q _ ⟨.inr ⟨d, hne, upd_same, by rw [upd_ne hne]; exact upd_same⟩, fun p o hp e => by rw [upd_ne hp, upd_ne (ne_of_none e hd)]; exact e⟩
theorem bd_BadRow (F : Fun K "__init__" "BadRow.__init__" s_BadRow f fd) : Bnd K fd ["row"] :=
  ⟨kb F 2 [] gApp (fun _ _ _ _ => Vals.append) (fun _ _ _ _ _ _ us ws l1 l2 => match us, ws, l1, l2 with | [_, _], [], _, _ => rfl), kb F 1 ["row"] gApp (fun _ _ _ _ => Vals.append) (fun _ _ _ _ _ _ us ws l1 l2 => match us, ws, l1, l2 with | [_], [_], _, _ => rfl)⟩
abbrev s_NoLayer : Stmt := inClass (top 27) 0
theorem sc_NoLayer : FnScope ["self", "height"] ["self", "height"] (defScope s_NoLayer) := ⟨rfl, rfl, rfl, by decide +kernel, rfl, by decide +kernel, by decide +kernel⟩
theorem in_NoLayer (F : Fun K "__init__" "NoLayer.__init__" s_NoLayer f fd) (T : RTxt K mg R) (E : Ecl K mg R "NoLayer" C ["height"]) : FnOk P w K mg base CX0 1 f fd ["self", "height"] (spI C ["height"]) := by
  refine F.ok sc_NoLayer (fun vs H Q E h => ?_) (fun cdv A outer s H vs Q X hr h => ?_)
  · obtain ⟨a, args, rfl, hl, _⟩ := h
    simp [hl]
  · obtain ⟨a, args, rfl, hl, ha, q⟩ := h
    match args, hl with
    | [v], _ =>
      refine ⟨_, (pss_cons (ps_expr (pe_base (by rfl) T.g T.rd T.vB (pa_cons (pv 0) (pa_cons pe_str pa_nil))))
      (pss_one (ps_ost (pv 0) (pv 1)))), ?_⟩
      refine ⟨_, rfl, a, C, _, rfl, by show 1 ≤ 1000; decide, E.oex, ha, _, rfl, _, rfl, a, C, rfl, E.oex, E.no _ (by simp), .inl ⟨ha, fun d hd hne => ?_⟩⟩
      exact q _ ⟨.inr ⟨d, hne, upd_same, by rw [upd_ne hne]; exact upd_same⟩, fun p o hp e => by rw [upd_ne hp, upd_ne (ne_of_none e hd)]; exact e⟩
theorem bd_NoLayer (F : Fun K "__init__" "NoLayer.__init__" s_NoLayer f fd) : Bnd K fd ["height"] :=
  ⟨kb F 2 [] gApp (fun _ _ _ _ => Vals.append) (fun _ _ _ _ _ _ us ws l1 l2 => match us, ws, l1, l2 with | [_, _], [], _, _ => rfl), kb F 1 ["height"] gApp (fun _ _ _ _ => Vals.append) (fun _ _ _ _ _ _ us ws l1 l2 => match us, ws, l1, l2 with | [_], [_], _, _ => rfl)⟩
abbrev s_Touch : Stmt := inClass (top 28) 0
theorem sc_Touch : FnScope ["self", "part", "layer"] ["self", "part", "layer"] (defScope s_Touch) := ⟨rfl, rfl, rfl, by decide +kernel, rfl, by decide +kernel, by decide +kernel⟩
theorem in_Touch (F : Fun K "__init__" "Touch.__init__" s_Touch f fd) (T : RTxt K mg R) (E : Ecl K mg R "Touch" C ["part", "layer"]) : FnOk P w K mg base CX0 1 f fd ["self", "part", "layer"] (spI C ["part", "layer"]) := by
  refine F.ok sc_Touch (fun vs H Q E h => ?_) (fun cdv A outer s H vs Q X hr h => ?_)
  · obtain ⟨a, args, rfl, hl, _⟩ := h
    simp [hl]
  · obtain ⟨a, args, rfl, hl, ha, q⟩ := h
    match args, hl with
    | [v, u], _ =>
      refine ⟨_, (pss_cons (ps_expr (pe_base (by rfl) T.g T.rd T.vB (pa_cons (pv 0) (pa_cons pe_str pa_nil))))
      (pss_cons (ps_ost (pv 0) (pv 1))
      (pss_one (ps_ost (pv 0) (pv 2))))), ?_⟩
      refine ⟨_, rfl, a, C, _, rfl, by show 1 ≤ 1000; decide, E.oex, ha, _, rfl, _, rfl, a, C, rfl, E.oex, E.no _ (by simp), .inl ⟨ha, fun d hd hne => ?_⟩⟩
      refine ⟨_, rfl, _, rfl, a, C, rfl, E.oex, E.no _ (by simp), .inr ⟨d, _, upd_same, by rw [upd_ne hne]; exact upd_same, by show 1 ≤ 900; decide, ?_⟩⟩
      exact q _ ⟨.inr ⟨d, hne, by rw [upd_ne hne.symm]; exact upd_same, upd_same⟩, fun p o hp e => by rw [upd_ne (ne_of_none e hd), upd_ne hp, upd_ne (ne_of_none e hd)]; exact e⟩
theorem bd_Touch (F : Fun K "__init__" "Touch.__init__" s_Touch f fd) : Bnd K fd ["part", "layer"] :=
  ⟨kb F 3 [] gApp (fun _ _ _ _ => Vals.append) (fun _ _ _ _ _ _ us ws l1 l2 => match us, ws, l1, l2 with | [_, _, _], [], _, _ => rfl), kb F 2 ["layer"] gApp (fun _ _ _ _ => Vals.append) (fun _ _ _ _ _ _ us ws l1 l2 => match us, ws, l1, l2 with | [_, _], [_], _, _ => rfl), kb F 1 ["layer", "part"] gRev (fun _ _ _ _ a b => a.append b.reverse) (fun _ _ _ _ _ _ us ws l1 l2 => match us, ws, l1, l2 with | [_], [_, _], _, _ => rfl)⟩
abbrev s_Hangs : Stmt := inClass (top 29) 0
theorem sc_Hangs : FnScope ["self", "point"] ["self", "point"] (defScope s_Hangs) := ⟨rfl, rfl, rfl, by decide +kernel, rfl, by decide +kernel, by decide +kernel⟩
theorem in_Hangs (F : Fun K "__init__" "Hangs.__init__" s_Hangs f fd) (T : RTxt K mg R) (E : Ecl K mg R "Hangs" C ["point"]) : FnOk P w K mg base CX0 1 f fd ["self", "point"] (spI C ["point"]) := by
  refine F.ok sc_Hangs (fun vs H Q E h => ?_) (fun cdv A outer s H vs Q X hr h => ?_)
  · obtain ⟨a, args, rfl, hl, _⟩ := h
    simp [hl]
  · obtain ⟨a, args, rfl, hl, ha, q⟩ := h
    match args, hl with
    | [v], _ =>
      refine ⟨_, (pss_cons (ps_expr (pe_base (by rfl) T.g T.rd T.vB (pa_cons (pv 0) (pa_cons pe_str pa_nil))))
      (pss_one (ps_ost (pv 0) (pv 1)))), ?_⟩
      refine ⟨_, rfl, a, C, _, rfl, by show 1 ≤ 1000; decide, E.oex, ha, _, rfl, _, rfl, a, C, rfl, E.oex, E.no _ (by simp), .inl ⟨ha, fun d hd hne => ?_⟩⟩
      exact q _ ⟨.inr ⟨d, hne, upd_same, by rw [upd_ne hne]; exact upd_same⟩, fun p o hp e => by rw [upd_ne hp, upd_ne (ne_of_none e hd)]; exact e⟩
theorem bd_Hangs (F : Fun K "__init__" "Hangs.__init__" s_Hangs f fd) : Bnd K fd ["point"] :=
  ⟨kb F 2 [] gApp (fun _ _ _ _ => Vals.append) (fun _ _ _ _ _ _ us ws l1 l2 => match us, ws, l1, l2 with | [_, _], [], _, _ => rfl), kb F 1 ["point"] gApp (fun _ _ _ _ => Vals.append) (fun _ _ _ _ _ _ us ws l1 l2 => match us, ws, l1, l2 with | [_], [_], _, _ => rfl)⟩
abbrev s_Outside : Stmt := inClass (top 30) 0
theorem sc_Outside : FnScope ["self", "point"] ["self", "point"] (defScope s_Outside) := ⟨rfl, rfl, rfl, by decide +kernel, rfl, by decide +kernel, by decide +kernel⟩
theorem in_Outside (F : Fun K "__init__" "Outside.__init__" s_Outside f fd) (T : RTxt K mg R) (E : Ecl K mg R "Outside" C ["point"]) : FnOk P w K mg base CX0 1 f fd ["self", "point"] (spI C ["point"]) := by
  refine F.ok sc_Outside (fun vs H Q E h => ?_) (fun cdv A outer s H vs Q X hr h => ?_)
  · obtain ⟨a, args, rfl, hl, _⟩ := h
    simp [hl]
  · obtain ⟨a, args, rfl, hl, ha, q⟩ := h
    match args, hl with
    | [v], _ =>
      refine ⟨_, (pss_cons (ps_expr (pe_base (by rfl) T.g T.rd T.vB (pa_cons (pv 0) (pa_cons pe_str pa_nil))))
      (pss_one (ps_ost (pv 0) (pv 1)))), ?_⟩
      refine ⟨_, rfl, a, C, _, rfl, by show 1 ≤ 1000; decide, E.oex, ha, _, rfl, _, rfl, a, C, rfl, E.oex, E.no _ (by simp), .inl ⟨ha, fun d hd hne => ?_⟩⟩
      exact q _ ⟨.inr ⟨d, hne, upd_same, by rw [upd_ne hne]; exact upd_same⟩, fun p o hp e => by rw [upd_ne hp, upd_ne (ne_of_none e hd)]; exact e⟩
theorem bd_Outside (F : Fun K "__init__" "Outside.__init__" s_Outside f fd) : Bnd K fd ["point"] :=
  ⟨kb F 2 [] gApp (fun _ _ _ _ => Vals.append) (fun _ _ _ _ _ _ us ws l1 l2 => match us, ws, l1, l2 with | [_, _], [], _, _ => rfl), kb F 1 ["point"] gApp (fun _ _ _ _ => Vals.append) (fun _ _ _ _ _ _ us ws l1 l2 => match us, ws, l1, l2 with | [_], [_], _, _ => rfl)⟩
abbrev s_Loses : Stmt := inClass (top 31) 0
theorem sc_Loses : FnScope ["self", "layer"] ["self", "layer"] (defScope s_Loses) := ⟨rfl, rfl, rfl, by decide +kernel, rfl, by decide +kernel, by decide +kernel⟩
theorem in_Loses (F : Fun K "__init__" "Loses.__init__" s_Loses f fd) (T : RTxt K mg R) (E : Ecl K mg R "Loses" C ["layer"]) : FnOk P w K mg base CX0 1 f fd ["self", "layer"] (spI C ["layer"]) := by
  refine F.ok sc_Loses (fun vs H Q E h => ?_) (fun cdv A outer s H vs Q X hr h => ?_)
  · obtain ⟨a, args, rfl, hl, _⟩ := h
    simp [hl]
  · obtain ⟨a, args, rfl, hl, ha, q⟩ := h
    match args, hl with
    | [v], _ =>
      refine ⟨_, (pss_cons (ps_expr (pe_base (by rfl) T.g T.rd T.vB (pa_cons (pv 0) (pa_cons pe_str pa_nil))))
      (pss_one (ps_ost (pv 0) (pv 1)))), ?_⟩
      refine ⟨_, rfl, a, C, _, rfl, by show 1 ≤ 1000; decide, E.oex, ha, _, rfl, _, rfl, a, C, rfl, E.oex, E.no _ (by simp), .inl ⟨ha, fun d hd hne => ?_⟩⟩
      exact q _ ⟨.inr ⟨d, hne, upd_same, by rw [upd_ne hne]; exact upd_same⟩, fun p o hp e => by rw [upd_ne hp, upd_ne (ne_of_none e hd)]; exact e⟩
theorem bd_Loses (F : Fun K "__init__" "Loses.__init__" s_Loses f fd) : Bnd K fd ["layer"] :=
  ⟨kb F 2 [] gApp (fun _ _ _ _ => Vals.append) (fun _ _ _ _ _ _ us ws l1 l2 => match us, ws, l1, l2 with | [_, _], [], _, _ => rfl), kb F 1 ["layer"] gApp (fun _ _ _ _ => Vals.append) (fun _ _ _ _ _ _ us ws l1 l2 => match us, ws, l1, l2 with | [_], [_], _, _ => rfl)⟩
abbrev s_BadText : Stmt := inClass (top 32) 0
theorem sc_BadText : FnScope ["self", "line", "why"] ["self", "line", "why"] (defScope s_BadText) := ⟨rfl, rfl, rfl, by decide +kernel, rfl, by decide +kernel, by decide +kernel⟩
theorem in_BadText (F : Fun K "__init__" "BadText.__init__" s_BadText f fd) (T : RTxt K mg R) (E : Ecl K mg R "BadText" C ["line", "why"]) : FnOk P w K mg base CX0 1 f fd ["self", "line", "why"] (spI C ["line", "why"]) := by
  refine F.ok sc_BadText (fun vs H Q E h => ?_) (fun cdv A outer s H vs Q X hr h => ?_)
  · obtain ⟨a, args, rfl, hl, _⟩ := h
    simp [hl]
  · obtain ⟨a, args, rfl, hl, ha, q⟩ := h
    match args, hl with
    | [v, u], _ =>
      refine ⟨_, (pss_cons (ps_expr (pe_base (by rfl) T.g T.rd T.vB (pa_cons (pv 0) (pa_cons pe_str pa_nil))))
      (pss_cons (ps_ost (pv 0) (pv 1))
      (pss_one (ps_ost (pv 0) (pv 2))))), ?_⟩
      refine ⟨_, rfl, a, C, _, rfl, by show 1 ≤ 1000; decide, E.oex, ha, _, rfl, _, rfl, a, C, rfl, E.oex, E.no _ (by simp), .inl ⟨ha, fun d hd hne => ?_⟩⟩
      refine ⟨_, rfl, _, rfl, a, C, rfl, E.oex, E.no _ (by simp), .inr ⟨d, _, upd_same, by rw [upd_ne hne]; exact upd_same, by show 1 ≤ 900; decide, ?_⟩⟩
      exact q _ ⟨.inr ⟨d, hne, by rw [upd_ne hne.symm]; exact upd_same, upd_same⟩, fun p o hp e => by rw [upd_ne (ne_of_none e hd), upd_ne hp, upd_ne (ne_of_none e hd)]; exact e⟩
theorem bd_BadText (F : Fun K "__init__" "BadText.__init__" s_BadText f fd) : Bnd K fd ["line", "why"] :=
  ⟨kb F 3 [] gApp (fun _ _ _ _ => Vals.append) (fun _ _ _ _ _ _ us ws l1 l2 => match us, ws, l1, l2 with | [_, _, _], [], _, _ => rfl), kb F 2 ["why"] gApp (fun _ _ _ _ => Vals.append) (fun _ _ _ _ _ _ us ws l1 l2 => match us, ws, l1, l2 with | [_, _], [_], _, _ => rfl), kb F 1 ["why", "line"] gRev (fun _ _ _ _ a b => a.append b.reverse) (fun _ _ _ _ _ _ us ws l1 l2 => match us, ws, l1, l2 with | [_], [_, _], _, _ => rfl)⟩
end
def tab : List (Str × List Str) := [("BadNumber", ["value"]),
  ("BadRule", ["rule"]),
  ("BadMode", ["mode"]),
  ("BadPoint", ["point"]),
  ("BadNet", ["word", "index"]),
  ("BadLoft", []),
  ("NotClosed", ["edges"]),
  ("NotTwo", ["edge"]),
  ("Twisted", ["faces"]),
  ("Singular", []),
  ("BadHeights", []),
  ("BadSetup", ["word"]),
  ("BadLayers", ["layer"]),
  ("NoPoint", ["layer", "point"]),
  ("Laid", ["layer", "point"]),
  ("NoProp", ["layer", "point"]),
  ("BadFilling", ["filling"]),
  ("BadChooser", ["chooser"]),
  ("UnknownJob", ["number"]),
  ("NotReady", ["number"]),
  ("AllDone", []),
  ("BadIndex", ["index"]),
  ("NotOrder", []),
  ("Ring", ["bodies"]),
  ("BadRow", ["row"]),
  ("NoLayer", ["height"]),
  ("Touch", ["part", "layer"]),
  ("Hangs", ["point"]),
  ("Outside", ["point"]),
  ("Loses", ["layer"]),
  ("BadText", ["line", "why"])]
end Ko

namespace Ko
open PySem L2 PySem.Spec PyProof.Rows

abbrev cA (L : List Addr) (i : Nat) : Addr := L.getD i 0
/-- all that is used of the text's classes and names -/
structure All (P : Program) (w : World) (K : PySem.W.Frag) (mg : Str → Option Value) (base : Heap) (R : Addr) (L : List Addr) : Prop where
  r : RTxt K mg R
  b : Blt mg
  nd : (R :: L).Nodup
  ln : L.length = 31
  e : ∀ {i : Nat} {x : Str} {ps : List Str}, tab[i]? = some (x, ps) → Ecl K mg R x (cA L i) ps
  m : ∀ {i : Nat} {x : Str} {ps : List Str}, tab[i]? = some (x, ps) → ∃ f fd, Mkr K (cA L i) f ∧ FnOk P w K mg base CX0 1 f fd ("self" :: ps) (spI (cA L i) ps) ∧ Bnd K fd ps
section
variable {P : Program} {w : World} {K : PySem.W.Frag} {mg : Str → Option Value} {base : Heap} {R : Addr} {L : List Addr} {f : Addr} {fd : FuncData}
theorem tab_at {i : Nat} (h : i < 31) : ∃ x ps, tab[i]? = some (x, ps) := by
  have e : i < tab.length := h
  exact ⟨_, _, List.getElem?_eq_getElem e⟩
theorem All.ne (A : All P w K mg base R L) {i j : Nat} (hi : i < 31) (hj : j < 31) (h : i ≠ j) : cA L i ≠ cA L j := by
  have n := (List.nodup_cons.mp A.nd).2
  have li : i < L.length := by rw [A.ln]; exact hi
  have lj : j < L.length := by rw [A.ln]; exact hj
  intro z
  unfold cA at z
  rw [List.getD_eq_getElem?_getD, List.getD_eq_getElem?_getD, List.getElem?_eq_getElem li, List.getElem?_eq_getElem lj] at z
  exact h ((List.getElem_inj n).mp z)
theorem All.neR (A : All P w K mg base R L) {i : Nat} (hi : i < 31) : cA L i ≠ R := by
  have n := (List.nodup_cons.mp A.nd).1
  have li : i < L.length := by rw [A.ln]; exact hi
  intro z
  refine n ?_
  rw [← z]
  unfold cA
  rw [List.getD_eq_getElem?_getD, List.getElem?_eq_getElem li]
  exact List.getElem_mem li
theorem All.xc (A : All P w K mg base R L) {i : Nat} (h : i < 31) : ExcC K (cA L i) := by
  obtain ⟨x, ps, e⟩ := tab_at h
  exact (A.e e).xc A.r
theorem All.kit (A : All P w K mg base R L) {i j : Nat} (hi : i < 31) (hj : j < 31) : PySem.W.kitOne K (.ref (cA L i)) (.ref (cA L j)) = some (decide (i = j)) := by
  obtain ⟨x, ps, e⟩ := tab_at hi
  obtain ⟨x', ps', e'⟩ := tab_at hj
  by_cases h : i = j
  · subst h
    rw [decide_eq_true rfl]
    exact Ecl.kit_same _
  · rw [decide_eq_false h]
    exact (A.e e).kit_other (A.e e') (A.ne hi hj h) (A.neR hj)
/-- which of the classes: the one with this number -/
def row (k : Nat) : List V := (List.range 31).map fun j => V.bl (decide (k = j))
abbrev s_classes : Stmt := top 42
theorem sc_classes : FnScope ["_law_error", "_law_found"] ["_law_error"] (defScope s_classes) := ⟨rfl, rfl, rfl, by decide +kernel, rfl, by decide +kernel, by decide +kernel⟩

def spClasses (L : List Addr) : Sp := fun vs H Q _ => ∃ (a : Addr) (k : Nat) (fs : List (Str × V)), vs = [.ref a] ∧ k < 31 ∧ Err H a (cA L k) fs ∧ ∀ p H', Same H H' → H' p = some (.lst (row k)) → Q (.ref p) H'
def spClassesP (L : List Addr) (p : Pin) : Sp := fun vs H Q _ => ∃ (k : Nat) (d : Option Addr), vs = [.ref p.1] ∧ k < 31 ∧ Zc (.ref (cA L k)) d p.2 ∧ (∃ vs, p.2.data = .fields vs) ∧ (∀ dx, d = some dx → ∃ fs, H dx = some (exd dx fs)) ∧
  ∀ q H', Same H H' → H' q = some (.lst (row k)) → Q (.ref q) H'
theorem ok_classes (F : Fun K "_law_classes" "_law_classes" s_classes f fd) (A : All P w K mg base R L) : FnOk P w K mg base CX0 1 f fd ["_law_error"] (spClasses L) := by
  refine F.ok sc_classes (fun vs H Q E h => ?_) (fun cdv A' outer s H vs Q E hr h => ?_)
  · obtain ⟨a, k, fs, rfl, _⟩ := h
    rfl
  · obtain ⟨a, k, fs, rfl, hk, he, q⟩ := h
    refine ⟨_, (pss_cons (ps_set (i := 1) sc_classes.nd rfl (.inl rfl) (pe_lst (pa_cons (pe_callB call_isErr (by rfl) A.b.n_isinstance (by decide +kernel) (pa_cons (pv 0) (pa_cons (pe_glob (v := .ref _) (by rfl) (A.e (i := 0) rfl).g rfl) pa_nil))) (pa_cons (pe_callB call_isErr (by rfl) A.b.n_isinstance (by decide +kernel) (pa_cons (pv 0) (pa_cons (pe_glob (v := .ref _) (by rfl) (A.e (i := 1) rfl).g rfl) pa_nil))) (pa_cons (pe_callB call_isErr (by rfl) A.b.n_isinstance (by decide +kernel) (pa_cons (pv 0) (pa_cons (pe_glob (v := .ref _) (by rfl) (A.e (i := 2) rfl).g rfl) pa_nil))) (pa_cons (pe_callB call_isErr (by rfl) A.b.n_isinstance (by decide +kernel) (pa_cons (pv 0) (pa_cons (pe_glob (v := .ref _) (by rfl) (A.e (i := 3) rfl).g rfl) pa_nil))) (pa_cons (pe_callB call_isErr (by rfl) A.b.n_isinstance (by decide +kernel) (pa_cons (pv 0) (pa_cons (pe_glob (v := .ref _) (by rfl) (A.e (i := 4) rfl).g rfl) pa_nil))) pa_nil)))))))
      (pss_cons (ps_set (i := 1) sc_classes.nd rfl (.inl rfl) (pe_op op_cat (pv 1) (pe_lst (pa_cons (pe_callB call_isErr (by rfl) A.b.n_isinstance (by decide +kernel) (pa_cons (pv 0) (pa_cons (pe_glob (v := .ref _) (by rfl) (A.e (i := 5) rfl).g rfl) pa_nil))) (pa_cons (pe_callB call_isErr (by rfl) A.b.n_isinstance (by decide +kernel) (pa_cons (pv 0) (pa_cons (pe_glob (v := .ref _) (by rfl) (A.e (i := 6) rfl).g rfl) pa_nil))) (pa_cons (pe_callB call_isErr (by rfl) A.b.n_isinstance (by decide +kernel) (pa_cons (pv 0) (pa_cons (pe_glob (v := .ref _) (by rfl) (A.e (i := 7) rfl).g rfl) pa_nil))) (pa_cons (pe_callB call_isErr (by rfl) A.b.n_isinstance (by decide +kernel) (pa_cons (pv 0) (pa_cons (pe_glob (v := .ref _) (by rfl) (A.e (i := 8) rfl).g rfl) pa_nil))) (pa_cons (pe_callB call_isErr (by rfl) A.b.n_isinstance (by decide +kernel) (pa_cons (pv 0) (pa_cons (pe_glob (v := .ref _) (by rfl) (A.e (i := 9) rfl).g rfl) pa_nil))) pa_nil))))))))
      (pss_cons (ps_set (i := 1) sc_classes.nd rfl (.inl rfl) (pe_op op_cat (pv 1) (pe_lst (pa_cons (pe_callB call_isErr (by rfl) A.b.n_isinstance (by decide +kernel) (pa_cons (pv 0) (pa_cons (pe_glob (v := .ref _) (by rfl) (A.e (i := 10) rfl).g rfl) pa_nil))) (pa_cons (pe_callB call_isErr (by rfl) A.b.n_isinstance (by decide +kernel) (pa_cons (pv 0) (pa_cons (pe_glob (v := .ref _) (by rfl) (A.e (i := 11) rfl).g rfl) pa_nil))) (pa_cons (pe_callB call_isErr (by rfl) A.b.n_isinstance (by decide +kernel) (pa_cons (pv 0) (pa_cons (pe_glob (v := .ref _) (by rfl) (A.e (i := 12) rfl).g rfl) pa_nil))) (pa_cons (pe_callB call_isErr (by rfl) A.b.n_isinstance (by decide +kernel) (pa_cons (pv 0) (pa_cons (pe_glob (v := .ref _) (by rfl) (A.e (i := 13) rfl).g rfl) pa_nil))) (pa_cons (pe_callB call_isErr (by rfl) A.b.n_isinstance (by decide +kernel) (pa_cons (pv 0) (pa_cons (pe_glob (v := .ref _) (by rfl) (A.e (i := 14) rfl).g rfl) pa_nil))) pa_nil))))))))
      (pss_cons (ps_set (i := 1) sc_classes.nd rfl (.inl rfl) (pe_op op_cat (pv 1) (pe_lst (pa_cons (pe_callB call_isErr (by rfl) A.b.n_isinstance (by decide +kernel) (pa_cons (pv 0) (pa_cons (pe_glob (v := .ref _) (by rfl) (A.e (i := 15) rfl).g rfl) pa_nil))) (pa_cons (pe_callB call_isErr (by rfl) A.b.n_isinstance (by decide +kernel) (pa_cons (pv 0) (pa_cons (pe_glob (v := .ref _) (by rfl) (A.e (i := 16) rfl).g rfl) pa_nil))) (pa_cons (pe_callB call_isErr (by rfl) A.b.n_isinstance (by decide +kernel) (pa_cons (pv 0) (pa_cons (pe_glob (v := .ref _) (by rfl) (A.e (i := 17) rfl).g rfl) pa_nil))) (pa_cons (pe_callB call_isErr (by rfl) A.b.n_isinstance (by decide +kernel) (pa_cons (pv 0) (pa_cons (pe_glob (v := .ref _) (by rfl) (A.e (i := 18) rfl).g rfl) pa_nil))) (pa_cons (pe_callB call_isErr (by rfl) A.b.n_isinstance (by decide +kernel) (pa_cons (pv 0) (pa_cons (pe_glob (v := .ref _) (by rfl) (A.e (i := 19) rfl).g rfl) pa_nil))) pa_nil))))))))
      (pss_cons (ps_set (i := 1) sc_classes.nd rfl (.inl rfl) (pe_op op_cat (pv 1) (pe_lst (pa_cons (pe_callB call_isErr (by rfl) A.b.n_isinstance (by decide +kernel) (pa_cons (pv 0) (pa_cons (pe_glob (v := .ref _) (by rfl) (A.e (i := 20) rfl).g rfl) pa_nil))) (pa_cons (pe_callB call_isErr (by rfl) A.b.n_isinstance (by decide +kernel) (pa_cons (pv 0) (pa_cons (pe_glob (v := .ref _) (by rfl) (A.e (i := 21) rfl).g rfl) pa_nil))) (pa_cons (pe_callB call_isErr (by rfl) A.b.n_isinstance (by decide +kernel) (pa_cons (pv 0) (pa_cons (pe_glob (v := .ref _) (by rfl) (A.e (i := 22) rfl).g rfl) pa_nil))) (pa_cons (pe_callB call_isErr (by rfl) A.b.n_isinstance (by decide +kernel) (pa_cons (pv 0) (pa_cons (pe_glob (v := .ref _) (by rfl) (A.e (i := 23) rfl).g rfl) pa_nil))) (pa_cons (pe_callB call_isErr (by rfl) A.b.n_isinstance (by decide +kernel) (pa_cons (pv 0) (pa_cons (pe_glob (v := .ref _) (by rfl) (A.e (i := 24) rfl).g rfl) pa_nil))) pa_nil))))))))
      (pss_one (ps_ret (pe_op op_cat (pv 1) (pe_lst (pa_cons (pe_callB call_isErr (by rfl) A.b.n_isinstance (by decide +kernel) (pa_cons (pv 0) (pa_cons (pe_glob (v := .ref _) (by rfl) (A.e (i := 25) rfl).g rfl) pa_nil))) (pa_cons (pe_callB call_isErr (by rfl) A.b.n_isinstance (by decide +kernel) (pa_cons (pv 0) (pa_cons (pe_glob (v := .ref _) (by rfl) (A.e (i := 26) rfl).g rfl) pa_nil))) (pa_cons (pe_callB call_isErr (by rfl) A.b.n_isinstance (by decide +kernel) (pa_cons (pv 0) (pa_cons (pe_glob (v := .ref _) (by rfl) (A.e (i := 27) rfl).g rfl) pa_nil))) (pa_cons (pe_callB call_isErr (by rfl) A.b.n_isinstance (by decide +kernel) (pa_cons (pv 0) (pa_cons (pe_glob (v := .ref _) (by rfl) (A.e (i := 28) rfl).g rfl) pa_nil))) (pa_cons (pe_callB call_isErr (by rfl) A.b.n_isinstance (by decide +kernel) (pa_cons (pv 0) (pa_cons (pe_glob (v := .ref _) (by rfl) (A.e (i := 29) rfl).g rfl) pa_nil))) (pa_cons (pe_callB call_isErr (by rfl) A.b.n_isinstance (by decide +kernel) (pa_cons (pv 0) (pa_cons (pe_glob (v := .ref _) (by rfl) (A.e (i := 30) rfl).g rfl) pa_nil))) pa_nil))))))))))))))), ?_⟩
    refine ⟨_, rfl, _, _, _, _, _, _, rfl, (he.same (Same.refl H)), A.xc hk, .own _, A.kit hk (j := 0) (by decide), _, rfl, _, _, _, _, _, _, rfl, (he.same (Same.refl H)), A.xc hk, .own _, A.kit hk (j := 1) (by decide), _, rfl, _, _, _, _, _, _, rfl, (he.same (Same.refl H)), A.xc hk, .own _, A.kit hk (j := 2) (by decide), _, rfl, _, _, _, _, _, _, rfl, (he.same (Same.refl H)), A.xc hk, .own _, A.kit hk (j := 3) (by decide), _, rfl, _, _, _, _, _, _, rfl, (he.same (Same.refl H)), A.xc hk, .own _, A.kit hk (j := 4) (by decide), by show 5 ≤ sizeLine; decide, fun p1 h1 => ?_⟩
    refine ⟨_, rfl, _, rfl, _, _, _, _, _, _, rfl, (he.same (Same.new (Same.refl H) h1)), A.xc hk, .own _, A.kit hk (j := 5) (by decide), _, rfl, _, _, _, _, _, _, rfl, (he.same (Same.new (Same.refl H) h1)), A.xc hk, .own _, A.kit hk (j := 6) (by decide), _, rfl, _, _, _, _, _, _, rfl, (he.same (Same.new (Same.refl H) h1)), A.xc hk, .own _, A.kit hk (j := 7) (by decide), _, rfl, _, _, _, _, _, _, rfl, (he.same (Same.new (Same.refl H) h1)), A.xc hk, .own _, A.kit hk (j := 8) (by decide), _, rfl, _, _, _, _, _, _, rfl, (he.same (Same.new (Same.refl H) h1)), A.xc hk, .own _, A.kit hk (j := 9) (by decide), by show 5 ≤ sizeLine; decide, fun p2 h2 => ?_⟩
    refine ⟨p1, p2, _, _, rfl, rfl, by rw [upd_ne (ne_of_none upd_same h2)]; exact upd_same, upd_same, by show 5+5 ≤ sizeLine; decide, fun p3 h3 => ?_⟩
    refine ⟨_, rfl, _, rfl, _, _, _, _, _, _, rfl, (he.same (Same.new (Same.new (Same.new (Same.refl H) h1) h2) h3)), A.xc hk, .own _, A.kit hk (j := 10) (by decide), _, rfl, _, _, _, _, _, _, rfl, (he.same (Same.new (Same.new (Same.new (Same.refl H) h1) h2) h3)), A.xc hk, .own _, A.kit hk (j := 11) (by decide), _, rfl, _, _, _, _, _, _, rfl, (he.same (Same.new (Same.new (Same.new (Same.refl H) h1) h2) h3)), A.xc hk, .own _, A.kit hk (j := 12) (by decide), _, rfl, _, _, _, _, _, _, rfl, (he.same (Same.new (Same.new (Same.new (Same.refl H) h1) h2) h3)), A.xc hk, .own _, A.kit hk (j := 13) (by decide), _, rfl, _, _, _, _, _, _, rfl, (he.same (Same.new (Same.new (Same.new (Same.refl H) h1) h2) h3)), A.xc hk, .own _, A.kit hk (j := 14) (by decide), by show 5 ≤ sizeLine; decide, fun p4 h4 => ?_⟩
    refine ⟨p3, p4, _, _, rfl, rfl, by rw [upd_ne (ne_of_none upd_same h4)]; exact upd_same, upd_same, by show 10+5 ≤ sizeLine; decide, fun p5 h5 => ?_⟩
    refine ⟨_, rfl, _, rfl, _, _, _, _, _, _, rfl, (he.same (Same.new (Same.new (Same.new (Same.new (Same.new (Same.refl H) h1) h2) h3) h4) h5)), A.xc hk, .own _, A.kit hk (j := 15) (by decide), _, rfl, _, _, _, _, _, _, rfl, (he.same (Same.new (Same.new (Same.new (Same.new (Same.new (Same.refl H) h1) h2) h3) h4) h5)), A.xc hk, .own _, A.kit hk (j := 16) (by decide), _, rfl, _, _, _, _, _, _, rfl, (he.same (Same.new (Same.new (Same.new (Same.new (Same.new (Same.refl H) h1) h2) h3) h4) h5)), A.xc hk, .own _, A.kit hk (j := 17) (by decide), _, rfl, _, _, _, _, _, _, rfl, (he.same (Same.new (Same.new (Same.new (Same.new (Same.new (Same.refl H) h1) h2) h3) h4) h5)), A.xc hk, .own _, A.kit hk (j := 18) (by decide), _, rfl, _, _, _, _, _, _, rfl, (he.same (Same.new (Same.new (Same.new (Same.new (Same.new (Same.refl H) h1) h2) h3) h4) h5)), A.xc hk, .own _, A.kit hk (j := 19) (by decide), by show 5 ≤ sizeLine; decide, fun p6 h6 => ?_⟩
    refine ⟨p5, p6, _, _, rfl, rfl, by rw [upd_ne (ne_of_none upd_same h6)]; exact upd_same, upd_same, by show 15+5 ≤ sizeLine; decide, fun p7 h7 => ?_⟩
    refine ⟨_, rfl, _, rfl, _, _, _, _, _, _, rfl, (he.same (Same.new (Same.new (Same.new (Same.new (Same.new (Same.new (Same.new (Same.refl H) h1) h2) h3) h4) h5) h6) h7)), A.xc hk, .own _, A.kit hk (j := 20) (by decide), _, rfl, _, _, _, _, _, _, rfl, (he.same (Same.new (Same.new (Same.new (Same.new (Same.new (Same.new (Same.new (Same.refl H) h1) h2) h3) h4) h5) h6) h7)), A.xc hk, .own _, A.kit hk (j := 21) (by decide), _, rfl, _, _, _, _, _, _, rfl, (he.same (Same.new (Same.new (Same.new (Same.new (Same.new (Same.new (Same.new (Same.refl H) h1) h2) h3) h4) h5) h6) h7)), A.xc hk, .own _, A.kit hk (j := 22) (by decide), _, rfl, _, _, _, _, _, _, rfl, (he.same (Same.new (Same.new (Same.new (Same.new (Same.new (Same.new (Same.new (Same.refl H) h1) h2) h3) h4) h5) h6) h7)), A.xc hk, .own _, A.kit hk (j := 23) (by decide), _, rfl, _, _, _, _, _, _, rfl, (he.same (Same.new (Same.new (Same.new (Same.new (Same.new (Same.new (Same.new (Same.refl H) h1) h2) h3) h4) h5) h6) h7)), A.xc hk, .own _, A.kit hk (j := 24) (by decide), by show 5 ≤ sizeLine; decide, fun p8 h8 => ?_⟩
    refine ⟨p7, p8, _, _, rfl, rfl, by rw [upd_ne (ne_of_none upd_same h8)]; exact upd_same, upd_same, by show 20+5 ≤ sizeLine; decide, fun p9 h9 => ?_⟩
    refine ⟨_, rfl, _, rfl, _, _, _, _, _, _, rfl, (he.same (Same.new (Same.new (Same.new (Same.new (Same.new (Same.new (Same.new (Same.new (Same.new (Same.refl H) h1) h2) h3) h4) h5) h6) h7) h8) h9)), A.xc hk, .own _, A.kit hk (j := 25) (by decide), _, rfl, _, _, _, _, _, _, rfl, (he.same (Same.new (Same.new (Same.new (Same.new (Same.new (Same.new (Same.new (Same.new (Same.new (Same.refl H) h1) h2) h3) h4) h5) h6) h7) h8) h9)), A.xc hk, .own _, A.kit hk (j := 26) (by decide), _, rfl, _, _, _, _, _, _, rfl, (he.same (Same.new (Same.new (Same.new (Same.new (Same.new (Same.new (Same.new (Same.new (Same.new (Same.refl H) h1) h2) h3) h4) h5) h6) h7) h8) h9)), A.xc hk, .own _, A.kit hk (j := 27) (by decide), _, rfl, _, _, _, _, _, _, rfl, (he.same (Same.new (Same.new (Same.new (Same.new (Same.new (Same.new (Same.new (Same.new (Same.new (Same.refl H) h1) h2) h3) h4) h5) h6) h7) h8) h9)), A.xc hk, .own _, A.kit hk (j := 28) (by decide), _, rfl, _, _, _, _, _, _, rfl, (he.same (Same.new (Same.new (Same.new (Same.new (Same.new (Same.new (Same.new (Same.new (Same.new (Same.refl H) h1) h2) h3) h4) h5) h6) h7) h8) h9)), A.xc hk, .own _, A.kit hk (j := 29) (by decide), _, rfl, _, _, _, _, _, _, rfl, (he.same (Same.new (Same.new (Same.new (Same.new (Same.new (Same.new (Same.new (Same.new (Same.new (Same.refl H) h1) h2) h3) h4) h5) h6) h7) h8) h9)), A.xc hk, .own _, A.kit hk (j := 30) (by decide), by show 6 ≤ sizeLine; decide, fun p10 h10 => ?_⟩
    refine ⟨p9, p10, _, _, rfl, rfl, by rw [upd_ne (ne_of_none upd_same h10)]; exact upd_same, upd_same, by show 25+6 ≤ sizeLine; decide, fun p11 h11 => ?_⟩
    exact q p11 _ (Same.new (Same.new (Same.new (Same.new (Same.new (Same.new (Same.new (Same.new (Same.new (Same.new (Same.new (Same.refl H) h1) h2) h3) h4) h5) h6) h7) h8) h9) h10) h11) upd_same
theorem ok_classesP (F : Fun K "_law_classes" "_law_classes" s_classes f fd) (A : All P w K mg base R L) : FnP P w K mg base 1 f fd ["_law_error"] (spClassesP L) := by
  refine fnP_of F sc_classes (fun p vs H Q E h => ?_) (fun cdv A' outer s H vs Q E p hr h => ?_)
  · obtain ⟨k, d, rfl, _⟩ := h
    rfl
  · obtain ⟨k, d, rfl, hk, hz, hf, hd, q⟩ := h
    have hp : p ∈ (L2H.cxH CX0 P w K mg base ["_law_error", "_law_found"] "_law_classes" (defScope s_classes) f cdv A' outer s H E p).nox.pn := List.mem_cons_self
    refine ⟨_, (pss_cons (ps_set (i := 1) sc_classes.nd rfl (.inl rfl) (pe_lst (pa_cons (pe_callB (call_isPin hp) (by rfl) A.b.n_isinstance (by decide +kernel) (pa_cons (pv 0) (pa_cons (pe_glob (v := .ref _) (by rfl) (A.e (i := 0) rfl).g rfl) pa_nil))) (pa_cons (pe_callB (call_isPin hp) (by rfl) A.b.n_isinstance (by decide +kernel) (pa_cons (pv 0) (pa_cons (pe_glob (v := .ref _) (by rfl) (A.e (i := 1) rfl).g rfl) pa_nil))) (pa_cons (pe_callB (call_isPin hp) (by rfl) A.b.n_isinstance (by decide +kernel) (pa_cons (pv 0) (pa_cons (pe_glob (v := .ref _) (by rfl) (A.e (i := 2) rfl).g rfl) pa_nil))) (pa_cons (pe_callB (call_isPin hp) (by rfl) A.b.n_isinstance (by decide +kernel) (pa_cons (pv 0) (pa_cons (pe_glob (v := .ref _) (by rfl) (A.e (i := 3) rfl).g rfl) pa_nil))) (pa_cons (pe_callB (call_isPin hp) (by rfl) A.b.n_isinstance (by decide +kernel) (pa_cons (pv 0) (pa_cons (pe_glob (v := .ref _) (by rfl) (A.e (i := 4) rfl).g rfl) pa_nil))) pa_nil)))))))
      (pss_cons (ps_set (i := 1) sc_classes.nd rfl (.inl rfl) (pe_op op_cat (pv 1) (pe_lst (pa_cons (pe_callB (call_isPin hp) (by rfl) A.b.n_isinstance (by decide +kernel) (pa_cons (pv 0) (pa_cons (pe_glob (v := .ref _) (by rfl) (A.e (i := 5) rfl).g rfl) pa_nil))) (pa_cons (pe_callB (call_isPin hp) (by rfl) A.b.n_isinstance (by decide +kernel) (pa_cons (pv 0) (pa_cons (pe_glob (v := .ref _) (by rfl) (A.e (i := 6) rfl).g rfl) pa_nil))) (pa_cons (pe_callB (call_isPin hp) (by rfl) A.b.n_isinstance (by decide +kernel) (pa_cons (pv 0) (pa_cons (pe_glob (v := .ref _) (by rfl) (A.e (i := 7) rfl).g rfl) pa_nil))) (pa_cons (pe_callB (call_isPin hp) (by rfl) A.b.n_isinstance (by decide +kernel) (pa_cons (pv 0) (pa_cons (pe_glob (v := .ref _) (by rfl) (A.e (i := 8) rfl).g rfl) pa_nil))) (pa_cons (pe_callB (call_isPin hp) (by rfl) A.b.n_isinstance (by decide +kernel) (pa_cons (pv 0) (pa_cons (pe_glob (v := .ref _) (by rfl) (A.e (i := 9) rfl).g rfl) pa_nil))) pa_nil))))))))
      (pss_cons (ps_set (i := 1) sc_classes.nd rfl (.inl rfl) (pe_op op_cat (pv 1) (pe_lst (pa_cons (pe_callB (call_isPin hp) (by rfl) A.b.n_isinstance (by decide +kernel) (pa_cons (pv 0) (pa_cons (pe_glob (v := .ref _) (by rfl) (A.e (i := 10) rfl).g rfl) pa_nil))) (pa_cons (pe_callB (call_isPin hp) (by rfl) A.b.n_isinstance (by decide +kernel) (pa_cons (pv 0) (pa_cons (pe_glob (v := .ref _) (by rfl) (A.e (i := 11) rfl).g rfl) pa_nil))) (pa_cons (pe_callB (call_isPin hp) (by rfl) A.b.n_isinstance (by decide +kernel) (pa_cons (pv 0) (pa_cons (pe_glob (v := .ref _) (by rfl) (A.e (i := 12) rfl).g rfl) pa_nil))) (pa_cons (pe_callB (call_isPin hp) (by rfl) A.b.n_isinstance (by decide +kernel) (pa_cons (pv 0) (pa_cons (pe_glob (v := .ref _) (by rfl) (A.e (i := 13) rfl).g rfl) pa_nil))) (pa_cons (pe_callB (call_isPin hp) (by rfl) A.b.n_isinstance (by decide +kernel) (pa_cons (pv 0) (pa_cons (pe_glob (v := .ref _) (by rfl) (A.e (i := 14) rfl).g rfl) pa_nil))) pa_nil))))))))
      (pss_cons (ps_set (i := 1) sc_classes.nd rfl (.inl rfl) (pe_op op_cat (pv 1) (pe_lst (pa_cons (pe_callB (call_isPin hp) (by rfl) A.b.n_isinstance (by decide +kernel) (pa_cons (pv 0) (pa_cons (pe_glob (v := .ref _) (by rfl) (A.e (i := 15) rfl).g rfl) pa_nil))) (pa_cons (pe_callB (call_isPin hp) (by rfl) A.b.n_isinstance (by decide +kernel) (pa_cons (pv 0) (pa_cons (pe_glob (v := .ref _) (by rfl) (A.e (i := 16) rfl).g rfl) pa_nil))) (pa_cons (pe_callB (call_isPin hp) (by rfl) A.b.n_isinstance (by decide +kernel) (pa_cons (pv 0) (pa_cons (pe_glob (v := .ref _) (by rfl) (A.e (i := 17) rfl).g rfl) pa_nil))) (pa_cons (pe_callB (call_isPin hp) (by rfl) A.b.n_isinstance (by decide +kernel) (pa_cons (pv 0) (pa_cons (pe_glob (v := .ref _) (by rfl) (A.e (i := 18) rfl).g rfl) pa_nil))) (pa_cons (pe_callB (call_isPin hp) (by rfl) A.b.n_isinstance (by decide +kernel) (pa_cons (pv 0) (pa_cons (pe_glob (v := .ref _) (by rfl) (A.e (i := 19) rfl).g rfl) pa_nil))) pa_nil))))))))
      (pss_cons (ps_set (i := 1) sc_classes.nd rfl (.inl rfl) (pe_op op_cat (pv 1) (pe_lst (pa_cons (pe_callB (call_isPin hp) (by rfl) A.b.n_isinstance (by decide +kernel) (pa_cons (pv 0) (pa_cons (pe_glob (v := .ref _) (by rfl) (A.e (i := 20) rfl).g rfl) pa_nil))) (pa_cons (pe_callB (call_isPin hp) (by rfl) A.b.n_isinstance (by decide +kernel) (pa_cons (pv 0) (pa_cons (pe_glob (v := .ref _) (by rfl) (A.e (i := 21) rfl).g rfl) pa_nil))) (pa_cons (pe_callB (call_isPin hp) (by rfl) A.b.n_isinstance (by decide +kernel) (pa_cons (pv 0) (pa_cons (pe_glob (v := .ref _) (by rfl) (A.e (i := 22) rfl).g rfl) pa_nil))) (pa_cons (pe_callB (call_isPin hp) (by rfl) A.b.n_isinstance (by decide +kernel) (pa_cons (pv 0) (pa_cons (pe_glob (v := .ref _) (by rfl) (A.e (i := 23) rfl).g rfl) pa_nil))) (pa_cons (pe_callB (call_isPin hp) (by rfl) A.b.n_isinstance (by decide +kernel) (pa_cons (pv 0) (pa_cons (pe_glob (v := .ref _) (by rfl) (A.e (i := 24) rfl).g rfl) pa_nil))) pa_nil))))))))
      (pss_one (ps_ret (pe_op op_cat (pv 1) (pe_lst (pa_cons (pe_callB (call_isPin hp) (by rfl) A.b.n_isinstance (by decide +kernel) (pa_cons (pv 0) (pa_cons (pe_glob (v := .ref _) (by rfl) (A.e (i := 25) rfl).g rfl) pa_nil))) (pa_cons (pe_callB (call_isPin hp) (by rfl) A.b.n_isinstance (by decide +kernel) (pa_cons (pv 0) (pa_cons (pe_glob (v := .ref _) (by rfl) (A.e (i := 26) rfl).g rfl) pa_nil))) (pa_cons (pe_callB (call_isPin hp) (by rfl) A.b.n_isinstance (by decide +kernel) (pa_cons (pv 0) (pa_cons (pe_glob (v := .ref _) (by rfl) (A.e (i := 27) rfl).g rfl) pa_nil))) (pa_cons (pe_callB (call_isPin hp) (by rfl) A.b.n_isinstance (by decide +kernel) (pa_cons (pv 0) (pa_cons (pe_glob (v := .ref _) (by rfl) (A.e (i := 28) rfl).g rfl) pa_nil))) (pa_cons (pe_callB (call_isPin hp) (by rfl) A.b.n_isinstance (by decide +kernel) (pa_cons (pv 0) (pa_cons (pe_glob (v := .ref _) (by rfl) (A.e (i := 29) rfl).g rfl) pa_nil))) (pa_cons (pe_callB (call_isPin hp) (by rfl) A.b.n_isinstance (by decide +kernel) (pa_cons (pv 0) (pa_cons (pe_glob (v := .ref _) (by rfl) (A.e (i := 30) rfl).g rfl) pa_nil))) pa_nil))))))))))))))), ?_⟩
    refine ⟨_, rfl, _, _, _, _, _, rfl, hz, hf, (fun dx e => let ⟨fs, z⟩ := hd dx e; ⟨fs, (Same.refl H) _ _ z⟩), A.xc hk, .own _, A.kit hk (j := 0) (by decide), _, rfl, _, _, _, _, _, rfl, hz, hf, (fun dx e => let ⟨fs, z⟩ := hd dx e; ⟨fs, (Same.refl H) _ _ z⟩), A.xc hk, .own _, A.kit hk (j := 1) (by decide), _, rfl, _, _, _, _, _, rfl, hz, hf, (fun dx e => let ⟨fs, z⟩ := hd dx e; ⟨fs, (Same.refl H) _ _ z⟩), A.xc hk, .own _, A.kit hk (j := 2) (by decide), _, rfl, _, _, _, _, _, rfl, hz, hf, (fun dx e => let ⟨fs, z⟩ := hd dx e; ⟨fs, (Same.refl H) _ _ z⟩), A.xc hk, .own _, A.kit hk (j := 3) (by decide), _, rfl, _, _, _, _, _, rfl, hz, hf, (fun dx e => let ⟨fs, z⟩ := hd dx e; ⟨fs, (Same.refl H) _ _ z⟩), A.xc hk, .own _, A.kit hk (j := 4) (by decide), by show 5 ≤ sizeLine; decide, fun p1 h1 => ?_⟩
    refine ⟨_, rfl, _, rfl, _, _, _, _, _, rfl, hz, hf, (fun dx e => let ⟨fs, z⟩ := hd dx e; ⟨fs, (Same.new (Same.refl H) h1) _ _ z⟩), A.xc hk, .own _, A.kit hk (j := 5) (by decide), _, rfl, _, _, _, _, _, rfl, hz, hf, (fun dx e => let ⟨fs, z⟩ := hd dx e; ⟨fs, (Same.new (Same.refl H) h1) _ _ z⟩), A.xc hk, .own _, A.kit hk (j := 6) (by decide), _, rfl, _, _, _, _, _, rfl, hz, hf, (fun dx e => let ⟨fs, z⟩ := hd dx e; ⟨fs, (Same.new (Same.refl H) h1) _ _ z⟩), A.xc hk, .own _, A.kit hk (j := 7) (by decide), _, rfl, _, _, _, _, _, rfl, hz, hf, (fun dx e => let ⟨fs, z⟩ := hd dx e; ⟨fs, (Same.new (Same.refl H) h1) _ _ z⟩), A.xc hk, .own _, A.kit hk (j := 8) (by decide), _, rfl, _, _, _, _, _, rfl, hz, hf, (fun dx e => let ⟨fs, z⟩ := hd dx e; ⟨fs, (Same.new (Same.refl H) h1) _ _ z⟩), A.xc hk, .own _, A.kit hk (j := 9) (by decide), by show 5 ≤ sizeLine; decide, fun p2 h2 => ?_⟩
    refine ⟨p1, p2, _, _, rfl, rfl, by rw [upd_ne (ne_of_none upd_same h2)]; exact upd_same, upd_same, by show 5+5 ≤ sizeLine; decide, fun p3 h3 => ?_⟩
    refine ⟨_, rfl, _, rfl, _, _, _, _, _, rfl, hz, hf, (fun dx e => let ⟨fs, z⟩ := hd dx e; ⟨fs, (Same.new (Same.new (Same.new (Same.refl H) h1) h2) h3) _ _ z⟩), A.xc hk, .own _, A.kit hk (j := 10) (by decide), _, rfl, _, _, _, _, _, rfl, hz, hf, (fun dx e => let ⟨fs, z⟩ := hd dx e; ⟨fs, (Same.new (Same.new (Same.new (Same.refl H) h1) h2) h3) _ _ z⟩), A.xc hk, .own _, A.kit hk (j := 11) (by decide), _, rfl, _, _, _, _, _, rfl, hz, hf, (fun dx e => let ⟨fs, z⟩ := hd dx e; ⟨fs, (Same.new (Same.new (Same.new (Same.refl H) h1) h2) h3) _ _ z⟩), A.xc hk, .own _, A.kit hk (j := 12) (by decide), _, rfl, _, _, _, _, _, rfl, hz, hf, (fun dx e => let ⟨fs, z⟩ := hd dx e; ⟨fs, (Same.new (Same.new (Same.new (Same.refl H) h1) h2) h3) _ _ z⟩), A.xc hk, .own _, A.kit hk (j := 13) (by decide), _, rfl, _, _, _, _, _, rfl, hz, hf, (fun dx e => let ⟨fs, z⟩ := hd dx e; ⟨fs, (Same.new (Same.new (Same.new (Same.refl H) h1) h2) h3) _ _ z⟩), A.xc hk, .own _, A.kit hk (j := 14) (by decide), by show 5 ≤ sizeLine; decide, fun p4 h4 => ?_⟩
    refine ⟨p3, p4, _, _, rfl, rfl, by rw [upd_ne (ne_of_none upd_same h4)]; exact upd_same, upd_same, by show 10+5 ≤ sizeLine; decide, fun p5 h5 => ?_⟩
    refine ⟨_, rfl, _, rfl, _, _, _, _, _, rfl, hz, hf, (fun dx e => let ⟨fs, z⟩ := hd dx e; ⟨fs, (Same.new (Same.new (Same.new (Same.new (Same.new (Same.refl H) h1) h2) h3) h4) h5) _ _ z⟩), A.xc hk, .own _, A.kit hk (j := 15) (by decide), _, rfl, _, _, _, _, _, rfl, hz, hf, (fun dx e => let ⟨fs, z⟩ := hd dx e; ⟨fs, (Same.new (Same.new (Same.new (Same.new (Same.new (Same.refl H) h1) h2) h3) h4) h5) _ _ z⟩), A.xc hk, .own _, A.kit hk (j := 16) (by decide), _, rfl, _, _, _, _, _, rfl, hz, hf, (fun dx e => let ⟨fs, z⟩ := hd dx e; ⟨fs, (Same.new (Same.new (Same.new (Same.new (Same.new (Same.refl H) h1) h2) h3) h4) h5) _ _ z⟩), A.xc hk, .own _, A.kit hk (j := 17) (by decide), _, rfl, _, _, _, _, _, rfl, hz, hf, (fun dx e => let ⟨fs, z⟩ := hd dx e; ⟨fs, (Same.new (Same.new (Same.new (Same.new (Same.new (Same.refl H) h1) h2) h3) h4) h5) _ _ z⟩), A.xc hk, .own _, A.kit hk (j := 18) (by decide), _, rfl, _, _, _, _, _, rfl, hz, hf, (fun dx e => let ⟨fs, z⟩ := hd dx e; ⟨fs, (Same.new (Same.new (Same.new (Same.new (Same.new (Same.refl H) h1) h2) h3) h4) h5) _ _ z⟩), A.xc hk, .own _, A.kit hk (j := 19) (by decide), by show 5 ≤ sizeLine; decide, fun p6 h6 => ?_⟩
    refine ⟨p5, p6, _, _, rfl, rfl, by rw [upd_ne (ne_of_none upd_same h6)]; exact upd_same, upd_same, by show 15+5 ≤ sizeLine; decide, fun p7 h7 => ?_⟩
    refine ⟨_, rfl, _, rfl, _, _, _, _, _, rfl, hz, hf, (fun dx e => let ⟨fs, z⟩ := hd dx e; ⟨fs, (Same.new (Same.new (Same.new (Same.new (Same.new (Same.new (Same.new (Same.refl H) h1) h2) h3) h4) h5) h6) h7) _ _ z⟩), A.xc hk, .own _, A.kit hk (j := 20) (by decide), _, rfl, _, _, _, _, _, rfl, hz, hf, (fun dx e => let ⟨fs, z⟩ := hd dx e; ⟨fs, (Same.new (Same.new (Same.new (Same.new (Same.new (Same.new (Same.new (Same.refl H) h1) h2) h3) h4) h5) h6) h7) _ _ z⟩), A.xc hk, .own _, A.kit hk (j := 21) (by decide), _, rfl, _, _, _, _, _, rfl, hz, hf, (fun dx e => let ⟨fs, z⟩ := hd dx e; ⟨fs, (Same.new (Same.new (Same.new (Same.new (Same.new (Same.new (Same.new (Same.refl H) h1) h2) h3) h4) h5) h6) h7) _ _ z⟩), A.xc hk, .own _, A.kit hk (j := 22) (by decide), _, rfl, _, _, _, _, _, rfl, hz, hf, (fun dx e => let ⟨fs, z⟩ := hd dx e; ⟨fs, (Same.new (Same.new (Same.new (Same.new (Same.new (Same.new (Same.new (Same.refl H) h1) h2) h3) h4) h5) h6) h7) _ _ z⟩), A.xc hk, .own _, A.kit hk (j := 23) (by decide), _, rfl, _, _, _, _, _, rfl, hz, hf, (fun dx e => let ⟨fs, z⟩ := hd dx e; ⟨fs, (Same.new (Same.new (Same.new (Same.new (Same.new (Same.new (Same.new (Same.refl H) h1) h2) h3) h4) h5) h6) h7) _ _ z⟩), A.xc hk, .own _, A.kit hk (j := 24) (by decide), by show 5 ≤ sizeLine; decide, fun p8 h8 => ?_⟩
    refine ⟨p7, p8, _, _, rfl, rfl, by rw [upd_ne (ne_of_none upd_same h8)]; exact upd_same, upd_same, by show 20+5 ≤ sizeLine; decide, fun p9 h9 => ?_⟩
    refine ⟨_, rfl, _, rfl, _, _, _, _, _, rfl, hz, hf, (fun dx e => let ⟨fs, z⟩ := hd dx e; ⟨fs, (Same.new (Same.new (Same.new (Same.new (Same.new (Same.new (Same.new (Same.new (Same.new (Same.refl H) h1) h2) h3) h4) h5) h6) h7) h8) h9) _ _ z⟩), A.xc hk, .own _, A.kit hk (j := 25) (by decide), _, rfl, _, _, _, _, _, rfl, hz, hf, (fun dx e => let ⟨fs, z⟩ := hd dx e; ⟨fs, (Same.new (Same.new (Same.new (Same.new (Same.new (Same.new (Same.new (Same.new (Same.new (Same.refl H) h1) h2) h3) h4) h5) h6) h7) h8) h9) _ _ z⟩), A.xc hk, .own _, A.kit hk (j := 26) (by decide), _, rfl, _, _, _, _, _, rfl, hz, hf, (fun dx e => let ⟨fs, z⟩ := hd dx e; ⟨fs, (Same.new (Same.new (Same.new (Same.new (Same.new (Same.new (Same.new (Same.new (Same.new (Same.refl H) h1) h2) h3) h4) h5) h6) h7) h8) h9) _ _ z⟩), A.xc hk, .own _, A.kit hk (j := 27) (by decide), _, rfl, _, _, _, _, _, rfl, hz, hf, (fun dx e => let ⟨fs, z⟩ := hd dx e; ⟨fs, (Same.new (Same.new (Same.new (Same.new (Same.new (Same.new (Same.new (Same.new (Same.new (Same.refl H) h1) h2) h3) h4) h5) h6) h7) h8) h9) _ _ z⟩), A.xc hk, .own _, A.kit hk (j := 28) (by decide), _, rfl, _, _, _, _, _, rfl, hz, hf, (fun dx e => let ⟨fs, z⟩ := hd dx e; ⟨fs, (Same.new (Same.new (Same.new (Same.new (Same.new (Same.new (Same.new (Same.new (Same.new (Same.refl H) h1) h2) h3) h4) h5) h6) h7) h8) h9) _ _ z⟩), A.xc hk, .own _, A.kit hk (j := 29) (by decide), _, rfl, _, _, _, _, _, rfl, hz, hf, (fun dx e => let ⟨fs, z⟩ := hd dx e; ⟨fs, (Same.new (Same.new (Same.new (Same.new (Same.new (Same.new (Same.new (Same.new (Same.new (Same.refl H) h1) h2) h3) h4) h5) h6) h7) h8) h9) _ _ z⟩), A.xc hk, .own _, A.kit hk (j := 30) (by decide), by show 6 ≤ sizeLine; decide, fun p10 h10 => ?_⟩
    refine ⟨p9, p10, _, _, rfl, rfl, by rw [upd_ne (ne_of_none upd_same h10)]; exact upd_same, upd_same, by show 25+6 ≤ sizeLine; decide, fun p11 h11 => ?_⟩
    exact q p11 _ (Same.new (Same.new (Same.new (Same.new (Same.new (Same.new (Same.new (Same.new (Same.new (Same.new (Same.new (Same.refl H) h1) h2) h3) h4) h5) h6) h7) h8) h9) h10) h11) upd_same
end
end Ko

namespace Ko
open PySem L2 PySem.Spec PyProof.Rows
abbrev s_low : Stmt := top 43
theorem sc_low : FnScope ["_law_at", "_law_one", "_law_two", "_law_way", "_law_error"] ["_law_at", "_law_one", "_law_two", "_law_way"] (defScope s_low) := ⟨rfl, rfl, rfl, by decide +kernel, rfl, by decide +kernel, by decide +kernel⟩
abbrev s_middle : Stmt := top 44
theorem sc_middle : FnScope ["_law_at", "_law_one", "_law_two", "_law_way", "_law_error"] ["_law_at", "_law_one", "_law_two", "_law_way"] (defScope s_middle) := ⟨rfl, rfl, rfl, by decide +kernel, rfl, by decide +kernel, by decide +kernel⟩
abbrev s_high : Stmt := top 45
theorem sc_high : FnScope ["_law_at", "_law_one", "_law_two", "_law_way", "_law_error"] ["_law_at", "_law_one", "_law_two", "_law_way"] (defScope s_high) := ⟨rfl, rfl, rfl, by decide +kernel, rfl, by decide +kernel, by decide +kernel⟩
abbrev s_made : Stmt := top 48
theorem sc_made : FnScope ["_law_at", "_law_one", "_law_two", "_law_way", "_law_found"] ["_law_at", "_law_one", "_law_two", "_law_way"] (defScope s_made) := ⟨rfl, rfl, rfl, by decide +kernel, rfl, by decide +kernel, by decide +kernel⟩

theorem Err.some {H : Hp} {a C : Addr} {x : Str × V} {fs : List (Str × V)} (e : Err H a C (x :: fs)) : ∃ d, H a = some (exo a C (some d)) ∧ H d = some (exd d (x :: fs)) := by
  rcases e with ⟨e, _⟩ | ⟨d, _, e⟩
  · cases e
  · exact ⟨d, e⟩
/-- how many fields the error with this number has -/
def arN (k : Nat) : Nat := (tab.getD k ("", [])).2.length
/-- one of the errors from lo to hi made, in a list with the list of its fields; otherwise an empty list -/
def spPart (L : List Addr) (lo hi : Int) : Sp := fun vs H Q _ => ∃ (k way : Int) (x y : V), vs = [.int k, x, y, .int way] ∧ 0 ≤ k ∧ k < 31 ∧ (¬ (lo ≤ k ∧ k ≤ hi) → ∀ p H', Same H H' → H' p = some (.lst []) → Q (.ref p) H') ∧
  (lo ≤ k → k ≤ hi → ∀ (p r e : Addr) (fs : List (Str × V)) (H' : Hp), Same H H' → H' p = some (.lst [.ref e, .ref r]) → H' r = some (.lst ([x, y].take (arN k.toNat))) → Err H' e (cA L k.toNat) fs → Q (.ref p) H')
section
variable {P : Program} {w : World} {K : PySem.W.Frag} {mg : Str → Option Value} {base : Heap} {R : Addr} {L : List Addr} {f : Addr} {fd : FuncData}
/-- return [error, []] -/
theorem rd0 {i : Nat} {D : Ends} {σ : Si} {H H3 : Hp} {e C : Addr} {fs : List (Str × V)} (hs : σ[i]? = some (some (.ref e))) (s3 : Same H H3) (he : Err H3 e C fs)
    (q : ∀ (p r : Addr) (H' : Hp), Same H H' → H' p = some (.lst [.ref e, .ref r]) → H' r = some (.lst []) → Err H' e C fs → D.rt (.ref p) H') :
    tRet (tLst (tCons (tVar i) (tCons (tLst tNil) tNil))) D σ H3 := by
  refine ⟨_, hs, by show 0 ≤ sizeLine; decide, fun r hr => ⟨by show 2 ≤ sizeLine; decide, fun p hp => ?_⟩⟩
  refine q p r _ (Same.new (Same.new s3 hr) hp) upd_same ?_ (he.same (Same.new (Same.new (Same.refl H3) hr) hp))
  rw [upd_ne (ne_of_none upd_same hp)]
  exact upd_same
/-- return [error, [error.n]] -/
theorem rd1 {i : Nat} {D : Ends} {σ : Si} {H H3 : Hp} {e C : Addr} {n : Str} {v : V} (hs : σ[i]? = some (some (.ref e))) (s3 : Same H H3) (X : XfC K C) (no : PySem.W.findIn K (.ref C) n = some none) (he : Err H3 e C [(n, v)])
    (q : ∀ (p r : Addr) (H' : Hp), Same H H' → H' p = some (.lst [.ref e, .ref r]) → H' r = some (.lst [v]) → Err H' e C [(n, v)] → D.rt (.ref p) H') :
    tRet (tLst (tCons (tVar i) (tCons (tLst (tCons (tEat K n (tVar i)) tNil)) tNil))) D σ H3 := by
  obtain ⟨d, ha, hd⟩ := he.some
  refine ⟨_, hs, _, hs, e, C, d, _, v, rfl, ha, hd, X, no, by simp [List.lookup], by show 1 ≤ sizeLine; decide, fun r hr => ⟨by show 2 ≤ sizeLine; decide, fun p hp => ?_⟩⟩
  refine q p r _ (Same.new (Same.new s3 hr) hp) upd_same ?_ (he.same (Same.new (Same.new (Same.refl H3) hr) hp))
  rw [upd_ne (ne_of_none upd_same hp)]
  exact upd_same
/-- return [error, [error.n, error.m]] -/
theorem rd2 {i : Nat} {D : Ends} {σ : Si} {H H3 : Hp} {e C : Addr} {n m : Str} {v u : V} (hs : σ[i]? = some (some (.ref e))) (s3 : Same H H3) (X : XfC K C) (no : PySem.W.findIn K (.ref C) n = some none) (no2 : PySem.W.findIn K (.ref C) m = some none)
    (nm : (n == m) = false) (he : Err H3 e C [(m, u), (n, v)])
    (q : ∀ (p r : Addr) (H' : Hp), Same H H' → H' p = some (.lst [.ref e, .ref r]) → H' r = some (.lst [v, u]) → Err H' e C [(m, u), (n, v)] → D.rt (.ref p) H') :
    tRet (tLst (tCons (tVar i) (tCons (tLst (tCons (tEat K n (tVar i)) (tCons (tEat K m (tVar i)) tNil))) tNil))) D σ H3 := by
  obtain ⟨d, ha, hd⟩ := he.some
  refine ⟨_, hs, _, hs, e, C, d, _, v, rfl, ha, hd, X, no, by simp [List.lookup, nm], _, hs, e, C, d, _, u, rfl, ha, hd, X, no2, by simp [List.lookup], by show 2 ≤ sizeLine; decide, fun r hr => ⟨by show 2 ≤ sizeLine; decide, fun p hp => ?_⟩⟩
  refine q p r _ (Same.new (Same.new s3 hr) hp) upd_same ?_ (he.same (Same.new (Same.new (Same.refl H3) hr) hp))
  rw [upd_ne (ne_of_none upd_same hp)]
  exact upd_same
/-- all but the new error stands -/
theorem made_same {H H3 : Hp} {a C : Addr} {fs : List (Str × V)} (n : H a = none) (m : Made (upd H a (exo a C none)) H3 a C fs) : Same H H3 := fun p o e => by
  have ne : p ≠ a := ne_of_none e n
  exact m.2 p o ne (by rw [upd_ne ne]; exact e)
theorem ok_low (F : Fun K "_law_low_made" "_law_low_made" s_low f fd) (A : All P w K mg base R L) : FnOk P w K mg base CX0 3 f fd ["_law_at", "_law_one", "_law_two", "_law_way"] (spPart L 0 10) := by
  refine F.ok sc_low (fun vs H Q E h => ?_) (fun cdv A' outer s H vs Q E hr h => ?_)
  · obtain ⟨k, way, x, y, rfl, _⟩ := h
    rfl
  · obtain ⟨k, way, x, y, rfl, k0, k1, qn, qy⟩ := h
    have hr1 := hr.mono (show 2 ≤ 2 by decide)
    obtain ⟨f_BadNumber, fd_BadNumber, M_BadNumber, F_BadNumber, BP_BadNumber, D_BadNumber⟩ := A.m (i := 0) rfl
    have BK0_BadNumber := D_BadNumber
    obtain ⟨f_BadRule, fd_BadRule, M_BadRule, F_BadRule, BP_BadRule, D_BadRule⟩ := A.m (i := 1) rfl
    have BK0_BadRule := D_BadRule
    obtain ⟨f_BadMode, fd_BadMode, M_BadMode, F_BadMode, BP_BadMode, D_BadMode⟩ := A.m (i := 2) rfl
    have BK0_BadMode := D_BadMode
    obtain ⟨f_BadPoint, fd_BadPoint, M_BadPoint, F_BadPoint, BP_BadPoint, D_BadPoint⟩ := A.m (i := 3) rfl
    have BK0_BadPoint := D_BadPoint
    obtain ⟨f_BadNet, fd_BadNet, M_BadNet, F_BadNet, BP_BadNet, D_BadNet⟩ := A.m (i := 4) rfl
    obtain ⟨BK_BadNet, BK0_BadNet⟩ := D_BadNet
    obtain ⟨f_BadLoft, fd_BadLoft, M_BadLoft, F_BadLoft, BP_BadLoft, D_BadLoft⟩ := A.m (i := 5) rfl
    obtain ⟨f_NotClosed, fd_NotClosed, M_NotClosed, F_NotClosed, BP_NotClosed, D_NotClosed⟩ := A.m (i := 6) rfl
    have BK0_NotClosed := D_NotClosed
    obtain ⟨f_NotTwo, fd_NotTwo, M_NotTwo, F_NotTwo, BP_NotTwo, D_NotTwo⟩ := A.m (i := 7) rfl
    have BK0_NotTwo := D_NotTwo
    obtain ⟨f_Twisted, fd_Twisted, M_Twisted, F_Twisted, BP_Twisted, D_Twisted⟩ := A.m (i := 8) rfl
    have BK0_Twisted := D_Twisted
    obtain ⟨f_Singular, fd_Singular, M_Singular, F_Singular, BP_Singular, D_Singular⟩ := A.m (i := 9) rfl
    obtain ⟨f_BadHeights, fd_BadHeights, M_BadHeights, F_BadHeights, BP_BadHeights, D_BadHeights⟩ := A.m (i := 10) rfl
    refine ⟨_, (pss_cons (ps_if (pt_cmpR op_eq (pv 0) pe_int (nomark _))
      (pss_cons (ps_set (i := 4) sc_low.nd rfl (.inl rfl) (pe_ifExp (pt_cmpR op_lt (pv 3) pe_int (nomark _)) (pe_errP M_BadNumber F_BadNumber hr1 (by rfl) (A.e (i := 0) rfl).g BP_BadNumber (pa_cons (pv 1) pa_nil)) (pe_errK0 M_BadNumber F_BadNumber hr1 (by rfl) (A.e (i := 0) rfl).g BK0_BadNumber (pk_cons (pv 1) pk_nil))))
      (pss_one (ps_ret (pe_lst (pa_cons (pv 4) (pa_cons (pe_lst (pa_cons (pe_eat (pv 4)) pa_nil)) pa_nil)))))) pss_nil)
      (pss_cons (ps_if (pt_cmpR op_eq (pv 0) pe_int (nomark _))
      (pss_cons (ps_set (i := 4) sc_low.nd rfl (.inl rfl) (pe_ifExp (pt_cmpR op_lt (pv 3) pe_int (nomark _)) (pe_errP M_BadRule F_BadRule hr1 (by rfl) (A.e (i := 1) rfl).g BP_BadRule (pa_cons (pv 1) pa_nil)) (pe_errK0 M_BadRule F_BadRule hr1 (by rfl) (A.e (i := 1) rfl).g BK0_BadRule (pk_cons (pv 1) pk_nil))))
      (pss_one (ps_ret (pe_lst (pa_cons (pv 4) (pa_cons (pe_lst (pa_cons (pe_eat (pv 4)) pa_nil)) pa_nil)))))) pss_nil)
      (pss_cons (ps_if (pt_cmpR op_eq (pv 0) pe_int (nomark _))
      (pss_cons (ps_set (i := 4) sc_low.nd rfl (.inl rfl) (pe_ifExp (pt_cmpR op_lt (pv 3) pe_int (nomark _)) (pe_errP M_BadMode F_BadMode hr1 (by rfl) (A.e (i := 2) rfl).g BP_BadMode (pa_cons (pv 1) pa_nil)) (pe_errK0 M_BadMode F_BadMode hr1 (by rfl) (A.e (i := 2) rfl).g BK0_BadMode (pk_cons (pv 1) pk_nil))))
      (pss_one (ps_ret (pe_lst (pa_cons (pv 4) (pa_cons (pe_lst (pa_cons (pe_eat (pv 4)) pa_nil)) pa_nil)))))) pss_nil)
      (pss_cons (ps_if (pt_cmpR op_eq (pv 0) pe_int (nomark _))
      (pss_cons (ps_set (i := 4) sc_low.nd rfl (.inl rfl) (pe_ifExp (pt_cmpR op_lt (pv 3) pe_int (nomark _)) (pe_errP M_BadPoint F_BadPoint hr1 (by rfl) (A.e (i := 3) rfl).g BP_BadPoint (pa_cons (pv 1) pa_nil)) (pe_errK0 M_BadPoint F_BadPoint hr1 (by rfl) (A.e (i := 3) rfl).g BK0_BadPoint (pk_cons (pv 1) pk_nil))))
      (pss_one (ps_ret (pe_lst (pa_cons (pv 4) (pa_cons (pe_lst (pa_cons (pe_eat (pv 4)) pa_nil)) pa_nil)))))) pss_nil)
      (pss_cons (ps_if (pt_cmpR op_eq (pv 0) pe_int (nomark _))
      (pss_cons (ps_set (i := 4) sc_low.nd rfl (.inl rfl) (pe_ifExp (pt_cmpR op_eq (pv 3) pe_int (nomark _)) (pe_errP M_BadNet F_BadNet hr1 (by rfl) (A.e (i := 4) rfl).g BP_BadNet (pa_cons (pv 1) (pa_cons (pv 2) pa_nil))) (pe_ifExp (pt_cmpR op_eq (pv 3) pe_int (nomark _)) (pe_errK M_BadNet F_BadNet hr1 (by rfl) (A.e (i := 4) rfl).g BK_BadNet (pa_cons (pv 1) pa_nil) (pk_cons (pv 2) pk_nil)) (pe_errK0 M_BadNet F_BadNet hr1 (by rfl) (A.e (i := 4) rfl).g BK0_BadNet (pk_cons (pv 2) (pk_cons (pv 1) pk_nil))))))
      (pss_one (ps_ret (pe_lst (pa_cons (pv 4) (pa_cons (pe_lst (pa_cons (pe_eat (pv 4)) (pa_cons (pe_eat (pv 4)) pa_nil))) pa_nil)))))) pss_nil)
      (pss_cons (ps_if (pt_cmpR op_eq (pv 0) pe_int (nomark _))
      (pss_cons (ps_set (i := 4) sc_low.nd rfl (.inl rfl) (pe_err0 M_BadLoft F_BadLoft hr1 (by rfl) (A.e (i := 5) rfl).g BP_BadLoft))
      (pss_one (ps_ret (pe_lst (pa_cons (pv 4) (pa_cons (pe_lst pa_nil) pa_nil)))))) pss_nil)
      (pss_cons (ps_if (pt_cmpR op_eq (pv 0) pe_int (nomark _))
      (pss_cons (ps_set (i := 4) sc_low.nd rfl (.inl rfl) (pe_ifExp (pt_cmpR op_lt (pv 3) pe_int (nomark _)) (pe_errP M_NotClosed F_NotClosed hr1 (by rfl) (A.e (i := 6) rfl).g BP_NotClosed (pa_cons (pv 1) pa_nil)) (pe_errK0 M_NotClosed F_NotClosed hr1 (by rfl) (A.e (i := 6) rfl).g BK0_NotClosed (pk_cons (pv 1) pk_nil))))
      (pss_one (ps_ret (pe_lst (pa_cons (pv 4) (pa_cons (pe_lst (pa_cons (pe_eat (pv 4)) pa_nil)) pa_nil)))))) pss_nil)
      (pss_cons (ps_if (pt_cmpR op_eq (pv 0) pe_int (nomark _))
      (pss_cons (ps_set (i := 4) sc_low.nd rfl (.inl rfl) (pe_ifExp (pt_cmpR op_lt (pv 3) pe_int (nomark _)) (pe_errP M_NotTwo F_NotTwo hr1 (by rfl) (A.e (i := 7) rfl).g BP_NotTwo (pa_cons (pv 1) pa_nil)) (pe_errK0 M_NotTwo F_NotTwo hr1 (by rfl) (A.e (i := 7) rfl).g BK0_NotTwo (pk_cons (pv 1) pk_nil))))
      (pss_one (ps_ret (pe_lst (pa_cons (pv 4) (pa_cons (pe_lst (pa_cons (pe_eat (pv 4)) pa_nil)) pa_nil)))))) pss_nil)
      (pss_cons (ps_if (pt_cmpR op_eq (pv 0) pe_int (nomark _))
      (pss_cons (ps_set (i := 4) sc_low.nd rfl (.inl rfl) (pe_ifExp (pt_cmpR op_lt (pv 3) pe_int (nomark _)) (pe_errP M_Twisted F_Twisted hr1 (by rfl) (A.e (i := 8) rfl).g BP_Twisted (pa_cons (pv 1) pa_nil)) (pe_errK0 M_Twisted F_Twisted hr1 (by rfl) (A.e (i := 8) rfl).g BK0_Twisted (pk_cons (pv 1) pk_nil))))
      (pss_one (ps_ret (pe_lst (pa_cons (pv 4) (pa_cons (pe_lst (pa_cons (pe_eat (pv 4)) pa_nil)) pa_nil)))))) pss_nil)
      (pss_cons (ps_if (pt_cmpR op_eq (pv 0) pe_int (nomark _))
      (pss_cons (ps_set (i := 4) sc_low.nd rfl (.inl rfl) (pe_err0 M_Singular F_Singular hr1 (by rfl) (A.e (i := 9) rfl).g BP_Singular))
      (pss_one (ps_ret (pe_lst (pa_cons (pv 4) (pa_cons (pe_lst pa_nil) pa_nil)))))) pss_nil)
      (pss_cons (ps_if (pt_cmpR op_eq (pv 0) pe_int (nomark _))
      (pss_cons (ps_set (i := 4) sc_low.nd rfl (.inl rfl) (pe_err0 M_BadHeights F_BadHeights hr1 (by rfl) (A.e (i := 10) rfl).g BP_BadHeights))
      (pss_one (ps_ret (pe_lst (pa_cons (pv 4) (pa_cons (pe_lst pa_nil) pa_nil)))))) pss_nil)
      (pss_one (ps_ret (pe_lst pa_nil)))))))))))))), ?_⟩
    by_cases hin : 0 ≤ k ∧ k ≤ 10
    · obtain ⟨hl, hu⟩ := hin
      have hk : k = 0 ∨ k = 1 ∨ k = 2 ∨ k = 3 ∨ k = 4 ∨ k = 5 ∨ k = 6 ∨ k = 7 ∨ k = 8 ∨ k = 9 ∨ k = 10 := by omega
      clear k0 k1 hl hu qn
      rcases hk with rfl | rfl | rfl | rfl | rfl | rfl | rfl | rfl | rfl | rfl | rfl
      · refine ⟨_, rfl, rfl, _, rfl, iteT ?_⟩
        refine ⟨_, rfl, _, _, rfl, rfl, _, rfl, ?_⟩
        refine ite2 (fun c => ?_) (fun c => ?_)
        · refine ⟨_, rfl, rfl, rfl, by decide, fun a ha => ⟨a, _, rfl, rfl, upd_same, fun H3 mk => ⟨rfl, ?_⟩⟩⟩
          exact rd1 rfl (made_same ha mk) (A.e (i := 0) rfl).xf ((A.e (i := 0) rfl).no _ (by simp)) mk.1 fun p r H' s h1 h2 he => qy (by decide) (by decide) p r a _ H' s h1 h2 he
        · refine ⟨_, rfl, rfl, rfl, by decide, fun a ha => ⟨a, _, rfl, rfl, upd_same, fun H3 mk => ⟨rfl, ?_⟩⟩⟩
          exact rd1 rfl (made_same ha mk) (A.e (i := 0) rfl).xf ((A.e (i := 0) rfl).no _ (by simp)) mk.1 fun p r H' s h1 h2 he => qy (by decide) (by decide) p r a _ H' s h1 h2 he
      · refine ⟨_, rfl, rfl, _, rfl, iteF ?_⟩
        refine ⟨_, rfl, rfl, _, rfl, iteT ?_⟩
        refine ⟨_, rfl, _, _, rfl, rfl, _, rfl, ?_⟩
        refine ite2 (fun c => ?_) (fun c => ?_)
        · refine ⟨_, rfl, rfl, rfl, by decide, fun a ha => ⟨a, _, rfl, rfl, upd_same, fun H3 mk => ⟨rfl, ?_⟩⟩⟩
          exact rd1 rfl (made_same ha mk) (A.e (i := 1) rfl).xf ((A.e (i := 1) rfl).no _ (by simp)) mk.1 fun p r H' s h1 h2 he => qy (by decide) (by decide) p r a _ H' s h1 h2 he
        · refine ⟨_, rfl, rfl, rfl, by decide, fun a ha => ⟨a, _, rfl, rfl, upd_same, fun H3 mk => ⟨rfl, ?_⟩⟩⟩
          exact rd1 rfl (made_same ha mk) (A.e (i := 1) rfl).xf ((A.e (i := 1) rfl).no _ (by simp)) mk.1 fun p r H' s h1 h2 he => qy (by decide) (by decide) p r a _ H' s h1 h2 he
      · refine ⟨_, rfl, rfl, _, rfl, iteF ?_⟩
        refine ⟨_, rfl, rfl, _, rfl, iteF ?_⟩
        refine ⟨_, rfl, rfl, _, rfl, iteT ?_⟩
        refine ⟨_, rfl, _, _, rfl, rfl, _, rfl, ?_⟩
        refine ite2 (fun c => ?_) (fun c => ?_)
        · refine ⟨_, rfl, rfl, rfl, by decide, fun a ha => ⟨a, _, rfl, rfl, upd_same, fun H3 mk => ⟨rfl, ?_⟩⟩⟩
          exact rd1 rfl (made_same ha mk) (A.e (i := 2) rfl).xf ((A.e (i := 2) rfl).no _ (by simp)) mk.1 fun p r H' s h1 h2 he => qy (by decide) (by decide) p r a _ H' s h1 h2 he
        · refine ⟨_, rfl, rfl, rfl, by decide, fun a ha => ⟨a, _, rfl, rfl, upd_same, fun H3 mk => ⟨rfl, ?_⟩⟩⟩
          exact rd1 rfl (made_same ha mk) (A.e (i := 2) rfl).xf ((A.e (i := 2) rfl).no _ (by simp)) mk.1 fun p r H' s h1 h2 he => qy (by decide) (by decide) p r a _ H' s h1 h2 he
      · refine ⟨_, rfl, rfl, _, rfl, iteF ?_⟩
        refine ⟨_, rfl, rfl, _, rfl, iteF ?_⟩
        refine ⟨_, rfl, rfl, _, rfl, iteF ?_⟩
        refine ⟨_, rfl, rfl, _, rfl, iteT ?_⟩
        refine ⟨_, rfl, _, _, rfl, rfl, _, rfl, ?_⟩
        refine ite2 (fun c => ?_) (fun c => ?_)
        · refine ⟨_, rfl, rfl, rfl, by decide, fun a ha => ⟨a, _, rfl, rfl, upd_same, fun H3 mk => ⟨rfl, ?_⟩⟩⟩
          exact rd1 rfl (made_same ha mk) (A.e (i := 3) rfl).xf ((A.e (i := 3) rfl).no _ (by simp)) mk.1 fun p r H' s h1 h2 he => qy (by decide) (by decide) p r a _ H' s h1 h2 he
        · refine ⟨_, rfl, rfl, rfl, by decide, fun a ha => ⟨a, _, rfl, rfl, upd_same, fun H3 mk => ⟨rfl, ?_⟩⟩⟩
          exact rd1 rfl (made_same ha mk) (A.e (i := 3) rfl).xf ((A.e (i := 3) rfl).no _ (by simp)) mk.1 fun p r H' s h1 h2 he => qy (by decide) (by decide) p r a _ H' s h1 h2 he
      · refine ⟨_, rfl, rfl, _, rfl, iteF ?_⟩
        refine ⟨_, rfl, rfl, _, rfl, iteF ?_⟩
        refine ⟨_, rfl, rfl, _, rfl, iteF ?_⟩
        refine ⟨_, rfl, rfl, _, rfl, iteF ?_⟩
        refine ⟨_, rfl, rfl, _, rfl, iteT ?_⟩
        refine ⟨_, rfl, rfl, _, rfl, ?_⟩
        refine ite2 (fun c => ?_) (fun c => ?_)
        · refine ⟨_, rfl, _, rfl, rfl, rfl, by decide, fun a ha => ⟨a, _, rfl, rfl, upd_same, fun H3 mk => ⟨rfl, ?_⟩⟩⟩
          exact rd2 rfl (made_same ha mk) (A.e (i := 4) rfl).xf ((A.e (i := 4) rfl).no _ (by simp)) ((A.e (i := 4) rfl).no _ (by simp)) (by decide) mk.1 fun p r H' s h1 h2 he => qy (by decide) (by decide) p r a _ H' s h1 h2 he
        · refine ⟨_, rfl, rfl, _, rfl, ?_⟩
          refine ite2 (fun c => ?_) (fun c => ?_)
          · refine ⟨_, rfl, _, rfl, rfl, rfl, by decide, fun a ha => ⟨a, _, rfl, rfl, upd_same, fun H3 mk => ⟨rfl, ?_⟩⟩⟩
            exact rd2 rfl (made_same ha mk) (A.e (i := 4) rfl).xf ((A.e (i := 4) rfl).no _ (by simp)) ((A.e (i := 4) rfl).no _ (by simp)) (by decide) mk.1 fun p r H' s h1 h2 he => qy (by decide) (by decide) p r a _ H' s h1 h2 he
          · refine ⟨_, rfl, _, rfl, rfl, rfl, by decide, fun a ha => ⟨a, _, rfl, rfl, upd_same, fun H3 mk => ⟨rfl, ?_⟩⟩⟩
            exact rd2 rfl (made_same ha mk) (A.e (i := 4) rfl).xf ((A.e (i := 4) rfl).no _ (by simp)) ((A.e (i := 4) rfl).no _ (by simp)) (by decide) mk.1 fun p r H' s h1 h2 he => qy (by decide) (by decide) p r a _ H' s h1 h2 he
      · refine ⟨_, rfl, rfl, _, rfl, iteF ?_⟩
        refine ⟨_, rfl, rfl, _, rfl, iteF ?_⟩
        refine ⟨_, rfl, rfl, _, rfl, iteF ?_⟩
        refine ⟨_, rfl, rfl, _, rfl, iteF ?_⟩
        refine ⟨_, rfl, rfl, _, rfl, iteF ?_⟩
        refine ⟨_, rfl, rfl, _, rfl, iteT ?_⟩
        refine ⟨rfl, rfl, by decide, fun a ha => ⟨a, _, rfl, rfl, upd_same, fun H3 mk => ⟨rfl, ?_⟩⟩⟩
        exact rd0 rfl (made_same ha mk) mk.1 fun p r H' s h1 h2 he => qy (by decide) (by decide) p r a _ H' s h1 h2 he
      · refine ⟨_, rfl, rfl, _, rfl, iteF ?_⟩
        refine ⟨_, rfl, rfl, _, rfl, iteF ?_⟩
        refine ⟨_, rfl, rfl, _, rfl, iteF ?_⟩
        refine ⟨_, rfl, rfl, _, rfl, iteF ?_⟩
        refine ⟨_, rfl, rfl, _, rfl, iteF ?_⟩
        refine ⟨_, rfl, rfl, _, rfl, iteF ?_⟩
        refine ⟨_, rfl, rfl, _, rfl, iteT ?_⟩
        refine ⟨_, rfl, _, _, rfl, rfl, _, rfl, ?_⟩
        refine ite2 (fun c => ?_) (fun c => ?_)
        · refine ⟨_, rfl, rfl, rfl, by decide, fun a ha => ⟨a, _, rfl, rfl, upd_same, fun H3 mk => ⟨rfl, ?_⟩⟩⟩
          exact rd1 rfl (made_same ha mk) (A.e (i := 6) rfl).xf ((A.e (i := 6) rfl).no _ (by simp)) mk.1 fun p r H' s h1 h2 he => qy (by decide) (by decide) p r a _ H' s h1 h2 he
        · refine ⟨_, rfl, rfl, rfl, by decide, fun a ha => ⟨a, _, rfl, rfl, upd_same, fun H3 mk => ⟨rfl, ?_⟩⟩⟩
          exact rd1 rfl (made_same ha mk) (A.e (i := 6) rfl).xf ((A.e (i := 6) rfl).no _ (by simp)) mk.1 fun p r H' s h1 h2 he => qy (by decide) (by decide) p r a _ H' s h1 h2 he
      · refine ⟨_, rfl, rfl, _, rfl, iteF ?_⟩
        refine ⟨_, rfl, rfl, _, rfl, iteF ?_⟩
        refine ⟨_, rfl, rfl, _, rfl, iteF ?_⟩
        refine ⟨_, rfl, rfl, _, rfl, iteF ?_⟩
        refine ⟨_, rfl, rfl, _, rfl, iteF ?_⟩
        refine ⟨_, rfl, rfl, _, rfl, iteF ?_⟩
        refine ⟨_, rfl, rfl, _, rfl, iteF ?_⟩
        refine ⟨_, rfl, rfl, _, rfl, iteT ?_⟩
        refine ⟨_, rfl, _, _, rfl, rfl, _, rfl, ?_⟩
        refine ite2 (fun c => ?_) (fun c => ?_)
        · refine ⟨_, rfl, rfl, rfl, by decide, fun a ha => ⟨a, _, rfl, rfl, upd_same, fun H3 mk => ⟨rfl, ?_⟩⟩⟩
          exact rd1 rfl (made_same ha mk) (A.e (i := 7) rfl).xf ((A.e (i := 7) rfl).no _ (by simp)) mk.1 fun p r H' s h1 h2 he => qy (by decide) (by decide) p r a _ H' s h1 h2 he
        · refine ⟨_, rfl, rfl, rfl, by decide, fun a ha => ⟨a, _, rfl, rfl, upd_same, fun H3 mk => ⟨rfl, ?_⟩⟩⟩
          exact rd1 rfl (made_same ha mk) (A.e (i := 7) rfl).xf ((A.e (i := 7) rfl).no _ (by simp)) mk.1 fun p r H' s h1 h2 he => qy (by decide) (by decide) p r a _ H' s h1 h2 he
      · refine ⟨_, rfl, rfl, _, rfl, iteF ?_⟩
        refine ⟨_, rfl, rfl, _, rfl, iteF ?_⟩
        refine ⟨_, rfl, rfl, _, rfl, iteF ?_⟩
        refine ⟨_, rfl, rfl, _, rfl, iteF ?_⟩
        refine ⟨_, rfl, rfl, _, rfl, iteF ?_⟩
        refine ⟨_, rfl, rfl, _, rfl, iteF ?_⟩
        refine ⟨_, rfl, rfl, _, rfl, iteF ?_⟩
        refine ⟨_, rfl, rfl, _, rfl, iteF ?_⟩
        refine ⟨_, rfl, rfl, _, rfl, iteT ?_⟩
        refine ⟨_, rfl, _, _, rfl, rfl, _, rfl, ?_⟩
        refine ite2 (fun c => ?_) (fun c => ?_)
        · refine ⟨_, rfl, rfl, rfl, by decide, fun a ha => ⟨a, _, rfl, rfl, upd_same, fun H3 mk => ⟨rfl, ?_⟩⟩⟩
          exact rd1 rfl (made_same ha mk) (A.e (i := 8) rfl).xf ((A.e (i := 8) rfl).no _ (by simp)) mk.1 fun p r H' s h1 h2 he => qy (by decide) (by decide) p r a _ H' s h1 h2 he
        · refine ⟨_, rfl, rfl, rfl, by decide, fun a ha => ⟨a, _, rfl, rfl, upd_same, fun H3 mk => ⟨rfl, ?_⟩⟩⟩
          exact rd1 rfl (made_same ha mk) (A.e (i := 8) rfl).xf ((A.e (i := 8) rfl).no _ (by simp)) mk.1 fun p r H' s h1 h2 he => qy (by decide) (by decide) p r a _ H' s h1 h2 he
      · refine ⟨_, rfl, rfl, _, rfl, iteF ?_⟩
        refine ⟨_, rfl, rfl, _, rfl, iteF ?_⟩
        refine ⟨_, rfl, rfl, _, rfl, iteF ?_⟩
        refine ⟨_, rfl, rfl, _, rfl, iteF ?_⟩
        refine ⟨_, rfl, rfl, _, rfl, iteF ?_⟩
        refine ⟨_, rfl, rfl, _, rfl, iteF ?_⟩
        refine ⟨_, rfl, rfl, _, rfl, iteF ?_⟩
        refine ⟨_, rfl, rfl, _, rfl, iteF ?_⟩
        refine ⟨_, rfl, rfl, _, rfl, iteF ?_⟩
        refine ⟨_, rfl, rfl, _, rfl, iteT ?_⟩
        refine ⟨rfl, rfl, by decide, fun a ha => ⟨a, _, rfl, rfl, upd_same, fun H3 mk => ⟨rfl, ?_⟩⟩⟩
        exact rd0 rfl (made_same ha mk) mk.1 fun p r H' s h1 h2 he => qy (by decide) (by decide) p r a _ H' s h1 h2 he
      · refine ⟨_, rfl, rfl, _, rfl, iteF ?_⟩
        refine ⟨_, rfl, rfl, _, rfl, iteF ?_⟩
        refine ⟨_, rfl, rfl, _, rfl, iteF ?_⟩
        refine ⟨_, rfl, rfl, _, rfl, iteF ?_⟩
        refine ⟨_, rfl, rfl, _, rfl, iteF ?_⟩
        refine ⟨_, rfl, rfl, _, rfl, iteF ?_⟩
        refine ⟨_, rfl, rfl, _, rfl, iteF ?_⟩
        refine ⟨_, rfl, rfl, _, rfl, iteF ?_⟩
        refine ⟨_, rfl, rfl, _, rfl, iteF ?_⟩
        refine ⟨_, rfl, rfl, _, rfl, iteF ?_⟩
        refine ⟨_, rfl, rfl, _, rfl, iteT ?_⟩
        refine ⟨rfl, rfl, by decide, fun a ha => ⟨a, _, rfl, rfl, upd_same, fun H3 mk => ⟨rfl, ?_⟩⟩⟩
        exact rd0 rfl (made_same ha mk) mk.1 fun p r H' s h1 h2 he => qy (by decide) (by decide) p r a _ H' s h1 h2 he
    · have qn := qn hin
      clear qy
      refine ⟨_, rfl, rfl, _, rfl, ?_⟩
      rw [decide_eq_false (show ¬ V.int k = V.int 0 from fun z => by have := V.int.inj z; omega)]
      refine iteF ?_
      refine ⟨_, rfl, rfl, _, rfl, ?_⟩
      rw [decide_eq_false (show ¬ V.int k = V.int 1 from fun z => by have := V.int.inj z; omega)]
      refine iteF ?_
      refine ⟨_, rfl, rfl, _, rfl, ?_⟩
      rw [decide_eq_false (show ¬ V.int k = V.int 2 from fun z => by have := V.int.inj z; omega)]
      refine iteF ?_
      refine ⟨_, rfl, rfl, _, rfl, ?_⟩
      rw [decide_eq_false (show ¬ V.int k = V.int 3 from fun z => by have := V.int.inj z; omega)]
      refine iteF ?_
      refine ⟨_, rfl, rfl, _, rfl, ?_⟩
      rw [decide_eq_false (show ¬ V.int k = V.int 4 from fun z => by have := V.int.inj z; omega)]
      refine iteF ?_
      refine ⟨_, rfl, rfl, _, rfl, ?_⟩
      rw [decide_eq_false (show ¬ V.int k = V.int 5 from fun z => by have := V.int.inj z; omega)]
      refine iteF ?_
      refine ⟨_, rfl, rfl, _, rfl, ?_⟩
      rw [decide_eq_false (show ¬ V.int k = V.int 6 from fun z => by have := V.int.inj z; omega)]
      refine iteF ?_
      refine ⟨_, rfl, rfl, _, rfl, ?_⟩
      rw [decide_eq_false (show ¬ V.int k = V.int 7 from fun z => by have := V.int.inj z; omega)]
      refine iteF ?_
      refine ⟨_, rfl, rfl, _, rfl, ?_⟩
      rw [decide_eq_false (show ¬ V.int k = V.int 8 from fun z => by have := V.int.inj z; omega)]
      refine iteF ?_
      refine ⟨_, rfl, rfl, _, rfl, ?_⟩
      rw [decide_eq_false (show ¬ V.int k = V.int 9 from fun z => by have := V.int.inj z; omega)]
      refine iteF ?_
      refine ⟨_, rfl, rfl, _, rfl, ?_⟩
      rw [decide_eq_false (show ¬ V.int k = V.int 10 from fun z => by have := V.int.inj z; omega)]
      refine iteF ?_
      exact ⟨by show 0 ≤ sizeLine; decide, fun p hp => qn p _ (Same.new (Same.refl H) hp) upd_same⟩
theorem ok_middle (F : Fun K "_law_middle_made" "_law_middle_made" s_middle f fd) (A : All P w K mg base R L) : FnOk P w K mg base CX0 3 f fd ["_law_at", "_law_one", "_law_two", "_law_way"] (spPart L 11 20) := by
  refine F.ok sc_middle (fun vs H Q E h => ?_) (fun cdv A' outer s H vs Q E hr h => ?_)
  · obtain ⟨k, way, x, y, rfl, _⟩ := h
    rfl
  · obtain ⟨k, way, x, y, rfl, k0, k1, qn, qy⟩ := h
    have hr1 := hr.mono (show 2 ≤ 2 by decide)
    obtain ⟨f_BadSetup, fd_BadSetup, M_BadSetup, F_BadSetup, BP_BadSetup, D_BadSetup⟩ := A.m (i := 11) rfl
    have BK0_BadSetup := D_BadSetup
    obtain ⟨f_BadLayers, fd_BadLayers, M_BadLayers, F_BadLayers, BP_BadLayers, D_BadLayers⟩ := A.m (i := 12) rfl
    have BK0_BadLayers := D_BadLayers
    obtain ⟨f_NoPoint, fd_NoPoint, M_NoPoint, F_NoPoint, BP_NoPoint, D_NoPoint⟩ := A.m (i := 13) rfl
    obtain ⟨BK_NoPoint, BK0_NoPoint⟩ := D_NoPoint
    obtain ⟨f_Laid, fd_Laid, M_Laid, F_Laid, BP_Laid, D_Laid⟩ := A.m (i := 14) rfl
    obtain ⟨BK_Laid, BK0_Laid⟩ := D_Laid
    obtain ⟨f_NoProp, fd_NoProp, M_NoProp, F_NoProp, BP_NoProp, D_NoProp⟩ := A.m (i := 15) rfl
    obtain ⟨BK_NoProp, BK0_NoProp⟩ := D_NoProp
    obtain ⟨f_BadFilling, fd_BadFilling, M_BadFilling, F_BadFilling, BP_BadFilling, D_BadFilling⟩ := A.m (i := 16) rfl
    have BK0_BadFilling := D_BadFilling
    obtain ⟨f_BadChooser, fd_BadChooser, M_BadChooser, F_BadChooser, BP_BadChooser, D_BadChooser⟩ := A.m (i := 17) rfl
    have BK0_BadChooser := D_BadChooser
    obtain ⟨f_UnknownJob, fd_UnknownJob, M_UnknownJob, F_UnknownJob, BP_UnknownJob, D_UnknownJob⟩ := A.m (i := 18) rfl
    have BK0_UnknownJob := D_UnknownJob
    obtain ⟨f_NotReady, fd_NotReady, M_NotReady, F_NotReady, BP_NotReady, D_NotReady⟩ := A.m (i := 19) rfl
    have BK0_NotReady := D_NotReady
    obtain ⟨f_AllDone, fd_AllDone, M_AllDone, F_AllDone, BP_AllDone, D_AllDone⟩ := A.m (i := 20) rfl
    refine ⟨_, (pss_cons (ps_if (pt_cmpR op_eq (pv 0) pe_int (nomark _))
      (pss_cons (ps_set (i := 4) sc_middle.nd rfl (.inl rfl) (pe_ifExp (pt_cmpR op_lt (pv 3) pe_int (nomark _)) (pe_errP M_BadSetup F_BadSetup hr1 (by rfl) (A.e (i := 11) rfl).g BP_BadSetup (pa_cons (pv 1) pa_nil)) (pe_errK0 M_BadSetup F_BadSetup hr1 (by rfl) (A.e (i := 11) rfl).g BK0_BadSetup (pk_cons (pv 1) pk_nil))))
      (pss_one (ps_ret (pe_lst (pa_cons (pv 4) (pa_cons (pe_lst (pa_cons (pe_eat (pv 4)) pa_nil)) pa_nil)))))) pss_nil)
      (pss_cons (ps_if (pt_cmpR op_eq (pv 0) pe_int (nomark _))
      (pss_cons (ps_set (i := 4) sc_middle.nd rfl (.inl rfl) (pe_ifExp (pt_cmpR op_lt (pv 3) pe_int (nomark _)) (pe_errP M_BadLayers F_BadLayers hr1 (by rfl) (A.e (i := 12) rfl).g BP_BadLayers (pa_cons (pv 1) pa_nil)) (pe_errK0 M_BadLayers F_BadLayers hr1 (by rfl) (A.e (i := 12) rfl).g BK0_BadLayers (pk_cons (pv 1) pk_nil))))
      (pss_one (ps_ret (pe_lst (pa_cons (pv 4) (pa_cons (pe_lst (pa_cons (pe_eat (pv 4)) pa_nil)) pa_nil)))))) pss_nil)
      (pss_cons (ps_if (pt_cmpR op_eq (pv 0) pe_int (nomark _))
      (pss_cons (ps_set (i := 4) sc_middle.nd rfl (.inl rfl) (pe_ifExp (pt_cmpR op_eq (pv 3) pe_int (nomark _)) (pe_errP M_NoPoint F_NoPoint hr1 (by rfl) (A.e (i := 13) rfl).g BP_NoPoint (pa_cons (pv 1) (pa_cons (pv 2) pa_nil))) (pe_ifExp (pt_cmpR op_eq (pv 3) pe_int (nomark _)) (pe_errK M_NoPoint F_NoPoint hr1 (by rfl) (A.e (i := 13) rfl).g BK_NoPoint (pa_cons (pv 1) pa_nil) (pk_cons (pv 2) pk_nil)) (pe_errK0 M_NoPoint F_NoPoint hr1 (by rfl) (A.e (i := 13) rfl).g BK0_NoPoint (pk_cons (pv 2) (pk_cons (pv 1) pk_nil))))))
      (pss_one (ps_ret (pe_lst (pa_cons (pv 4) (pa_cons (pe_lst (pa_cons (pe_eat (pv 4)) (pa_cons (pe_eat (pv 4)) pa_nil))) pa_nil)))))) pss_nil)
      (pss_cons (ps_if (pt_cmpR op_eq (pv 0) pe_int (nomark _))
      (pss_cons (ps_set (i := 4) sc_middle.nd rfl (.inl rfl) (pe_ifExp (pt_cmpR op_eq (pv 3) pe_int (nomark _)) (pe_errP M_Laid F_Laid hr1 (by rfl) (A.e (i := 14) rfl).g BP_Laid (pa_cons (pv 1) (pa_cons (pv 2) pa_nil))) (pe_ifExp (pt_cmpR op_eq (pv 3) pe_int (nomark _)) (pe_errK M_Laid F_Laid hr1 (by rfl) (A.e (i := 14) rfl).g BK_Laid (pa_cons (pv 1) pa_nil) (pk_cons (pv 2) pk_nil)) (pe_errK0 M_Laid F_Laid hr1 (by rfl) (A.e (i := 14) rfl).g BK0_Laid (pk_cons (pv 2) (pk_cons (pv 1) pk_nil))))))
      (pss_one (ps_ret (pe_lst (pa_cons (pv 4) (pa_cons (pe_lst (pa_cons (pe_eat (pv 4)) (pa_cons (pe_eat (pv 4)) pa_nil))) pa_nil)))))) pss_nil)
      (pss_cons (ps_if (pt_cmpR op_eq (pv 0) pe_int (nomark _))
      (pss_cons (ps_set (i := 4) sc_middle.nd rfl (.inl rfl) (pe_ifExp (pt_cmpR op_eq (pv 3) pe_int (nomark _)) (pe_errP M_NoProp F_NoProp hr1 (by rfl) (A.e (i := 15) rfl).g BP_NoProp (pa_cons (pv 1) (pa_cons (pv 2) pa_nil))) (pe_ifExp (pt_cmpR op_eq (pv 3) pe_int (nomark _)) (pe_errK M_NoProp F_NoProp hr1 (by rfl) (A.e (i := 15) rfl).g BK_NoProp (pa_cons (pv 1) pa_nil) (pk_cons (pv 2) pk_nil)) (pe_errK0 M_NoProp F_NoProp hr1 (by rfl) (A.e (i := 15) rfl).g BK0_NoProp (pk_cons (pv 2) (pk_cons (pv 1) pk_nil))))))
      (pss_one (ps_ret (pe_lst (pa_cons (pv 4) (pa_cons (pe_lst (pa_cons (pe_eat (pv 4)) (pa_cons (pe_eat (pv 4)) pa_nil))) pa_nil)))))) pss_nil)
      (pss_cons (ps_if (pt_cmpR op_eq (pv 0) pe_int (nomark _))
      (pss_cons (ps_set (i := 4) sc_middle.nd rfl (.inl rfl) (pe_ifExp (pt_cmpR op_lt (pv 3) pe_int (nomark _)) (pe_errP M_BadFilling F_BadFilling hr1 (by rfl) (A.e (i := 16) rfl).g BP_BadFilling (pa_cons (pv 1) pa_nil)) (pe_errK0 M_BadFilling F_BadFilling hr1 (by rfl) (A.e (i := 16) rfl).g BK0_BadFilling (pk_cons (pv 1) pk_nil))))
      (pss_one (ps_ret (pe_lst (pa_cons (pv 4) (pa_cons (pe_lst (pa_cons (pe_eat (pv 4)) pa_nil)) pa_nil)))))) pss_nil)
      (pss_cons (ps_if (pt_cmpR op_eq (pv 0) pe_int (nomark _))
      (pss_cons (ps_set (i := 4) sc_middle.nd rfl (.inl rfl) (pe_ifExp (pt_cmpR op_lt (pv 3) pe_int (nomark _)) (pe_errP M_BadChooser F_BadChooser hr1 (by rfl) (A.e (i := 17) rfl).g BP_BadChooser (pa_cons (pv 1) pa_nil)) (pe_errK0 M_BadChooser F_BadChooser hr1 (by rfl) (A.e (i := 17) rfl).g BK0_BadChooser (pk_cons (pv 1) pk_nil))))
      (pss_one (ps_ret (pe_lst (pa_cons (pv 4) (pa_cons (pe_lst (pa_cons (pe_eat (pv 4)) pa_nil)) pa_nil)))))) pss_nil)
      (pss_cons (ps_if (pt_cmpR op_eq (pv 0) pe_int (nomark _))
      (pss_cons (ps_set (i := 4) sc_middle.nd rfl (.inl rfl) (pe_ifExp (pt_cmpR op_lt (pv 3) pe_int (nomark _)) (pe_errP M_UnknownJob F_UnknownJob hr1 (by rfl) (A.e (i := 18) rfl).g BP_UnknownJob (pa_cons (pv 1) pa_nil)) (pe_errK0 M_UnknownJob F_UnknownJob hr1 (by rfl) (A.e (i := 18) rfl).g BK0_UnknownJob (pk_cons (pv 1) pk_nil))))
      (pss_one (ps_ret (pe_lst (pa_cons (pv 4) (pa_cons (pe_lst (pa_cons (pe_eat (pv 4)) pa_nil)) pa_nil)))))) pss_nil)
      (pss_cons (ps_if (pt_cmpR op_eq (pv 0) pe_int (nomark _))
      (pss_cons (ps_set (i := 4) sc_middle.nd rfl (.inl rfl) (pe_ifExp (pt_cmpR op_lt (pv 3) pe_int (nomark _)) (pe_errP M_NotReady F_NotReady hr1 (by rfl) (A.e (i := 19) rfl).g BP_NotReady (pa_cons (pv 1) pa_nil)) (pe_errK0 M_NotReady F_NotReady hr1 (by rfl) (A.e (i := 19) rfl).g BK0_NotReady (pk_cons (pv 1) pk_nil))))
      (pss_one (ps_ret (pe_lst (pa_cons (pv 4) (pa_cons (pe_lst (pa_cons (pe_eat (pv 4)) pa_nil)) pa_nil)))))) pss_nil)
      (pss_cons (ps_if (pt_cmpR op_eq (pv 0) pe_int (nomark _))
      (pss_cons (ps_set (i := 4) sc_middle.nd rfl (.inl rfl) (pe_err0 M_AllDone F_AllDone hr1 (by rfl) (A.e (i := 20) rfl).g BP_AllDone))
      (pss_one (ps_ret (pe_lst (pa_cons (pv 4) (pa_cons (pe_lst pa_nil) pa_nil)))))) pss_nil)
      (pss_one (ps_ret (pe_lst pa_nil))))))))))))), ?_⟩
    by_cases hin : 11 ≤ k ∧ k ≤ 20
    · obtain ⟨hl, hu⟩ := hin
      have hk : k = 11 ∨ k = 12 ∨ k = 13 ∨ k = 14 ∨ k = 15 ∨ k = 16 ∨ k = 17 ∨ k = 18 ∨ k = 19 ∨ k = 20 := by omega
      clear k0 k1 hl hu qn
      rcases hk with rfl | rfl | rfl | rfl | rfl | rfl | rfl | rfl | rfl | rfl
      · refine ⟨_, rfl, rfl, _, rfl, iteT ?_⟩
        refine ⟨_, rfl, _, _, rfl, rfl, _, rfl, ?_⟩
        refine ite2 (fun c => ?_) (fun c => ?_)
        · refine ⟨_, rfl, rfl, rfl, by decide, fun a ha => ⟨a, _, rfl, rfl, upd_same, fun H3 mk => ⟨rfl, ?_⟩⟩⟩
          exact rd1 rfl (made_same ha mk) (A.e (i := 11) rfl).xf ((A.e (i := 11) rfl).no _ (by simp)) mk.1 fun p r H' s h1 h2 he => qy (by decide) (by decide) p r a _ H' s h1 h2 he
        · refine ⟨_, rfl, rfl, rfl, by decide, fun a ha => ⟨a, _, rfl, rfl, upd_same, fun H3 mk => ⟨rfl, ?_⟩⟩⟩
          exact rd1 rfl (made_same ha mk) (A.e (i := 11) rfl).xf ((A.e (i := 11) rfl).no _ (by simp)) mk.1 fun p r H' s h1 h2 he => qy (by decide) (by decide) p r a _ H' s h1 h2 he
      · refine ⟨_, rfl, rfl, _, rfl, iteF ?_⟩
        refine ⟨_, rfl, rfl, _, rfl, iteT ?_⟩
        refine ⟨_, rfl, _, _, rfl, rfl, _, rfl, ?_⟩
        refine ite2 (fun c => ?_) (fun c => ?_)
        · refine ⟨_, rfl, rfl, rfl, by decide, fun a ha => ⟨a, _, rfl, rfl, upd_same, fun H3 mk => ⟨rfl, ?_⟩⟩⟩
          exact rd1 rfl (made_same ha mk) (A.e (i := 12) rfl).xf ((A.e (i := 12) rfl).no _ (by simp)) mk.1 fun p r H' s h1 h2 he => qy (by decide) (by decide) p r a _ H' s h1 h2 he
        · refine ⟨_, rfl, rfl, rfl, by decide, fun a ha => ⟨a, _, rfl, rfl, upd_same, fun H3 mk => ⟨rfl, ?_⟩⟩⟩
          exact rd1 rfl (made_same ha mk) (A.e (i := 12) rfl).xf ((A.e (i := 12) rfl).no _ (by simp)) mk.1 fun p r H' s h1 h2 he => qy (by decide) (by decide) p r a _ H' s h1 h2 he
      · refine ⟨_, rfl, rfl, _, rfl, iteF ?_⟩
        refine ⟨_, rfl, rfl, _, rfl, iteF ?_⟩
        refine ⟨_, rfl, rfl, _, rfl, iteT ?_⟩
        refine ⟨_, rfl, rfl, _, rfl, ?_⟩
        refine ite2 (fun c => ?_) (fun c => ?_)
        · refine ⟨_, rfl, _, rfl, rfl, rfl, by decide, fun a ha => ⟨a, _, rfl, rfl, upd_same, fun H3 mk => ⟨rfl, ?_⟩⟩⟩
          exact rd2 rfl (made_same ha mk) (A.e (i := 13) rfl).xf ((A.e (i := 13) rfl).no _ (by simp)) ((A.e (i := 13) rfl).no _ (by simp)) (by decide) mk.1 fun p r H' s h1 h2 he => qy (by decide) (by decide) p r a _ H' s h1 h2 he
        · refine ⟨_, rfl, rfl, _, rfl, ?_⟩
          refine ite2 (fun c => ?_) (fun c => ?_)
          · refine ⟨_, rfl, _, rfl, rfl, rfl, by decide, fun a ha => ⟨a, _, rfl, rfl, upd_same, fun H3 mk => ⟨rfl, ?_⟩⟩⟩
            exact rd2 rfl (made_same ha mk) (A.e (i := 13) rfl).xf ((A.e (i := 13) rfl).no _ (by simp)) ((A.e (i := 13) rfl).no _ (by simp)) (by decide) mk.1 fun p r H' s h1 h2 he => qy (by decide) (by decide) p r a _ H' s h1 h2 he
          · refine ⟨_, rfl, _, rfl, rfl, rfl, by decide, fun a ha => ⟨a, _, rfl, rfl, upd_same, fun H3 mk => ⟨rfl, ?_⟩⟩⟩
            exact rd2 rfl (made_same ha mk) (A.e (i := 13) rfl).xf ((A.e (i := 13) rfl).no _ (by simp)) ((A.e (i := 13) rfl).no _ (by simp)) (by decide) mk.1 fun p r H' s h1 h2 he => qy (by decide) (by decide) p r a _ H' s h1 h2 he
      · refine ⟨_, rfl, rfl, _, rfl, iteF ?_⟩
        refine ⟨_, rfl, rfl, _, rfl, iteF ?_⟩
        refine ⟨_, rfl, rfl, _, rfl, iteF ?_⟩
        refine ⟨_, rfl, rfl, _, rfl, iteT ?_⟩
        refine ⟨_, rfl, rfl, _, rfl, ?_⟩
        refine ite2 (fun c => ?_) (fun c => ?_)
        · refine ⟨_, rfl, _, rfl, rfl, rfl, by decide, fun a ha => ⟨a, _, rfl, rfl, upd_same, fun H3 mk => ⟨rfl, ?_⟩⟩⟩
          exact rd2 rfl (made_same ha mk) (A.e (i := 14) rfl).xf ((A.e (i := 14) rfl).no _ (by simp)) ((A.e (i := 14) rfl).no _ (by simp)) (by decide) mk.1 fun p r H' s h1 h2 he => qy (by decide) (by decide) p r a _ H' s h1 h2 he
        · refine ⟨_, rfl, rfl, _, rfl, ?_⟩
          refine ite2 (fun c => ?_) (fun c => ?_)
          · refine ⟨_, rfl, _, rfl, rfl, rfl, by decide, fun a ha => ⟨a, _, rfl, rfl, upd_same, fun H3 mk => ⟨rfl, ?_⟩⟩⟩
            exact rd2 rfl (made_same ha mk) (A.e (i := 14) rfl).xf ((A.e (i := 14) rfl).no _ (by simp)) ((A.e (i := 14) rfl).no _ (by simp)) (by decide) mk.1 fun p r H' s h1 h2 he => qy (by decide) (by decide) p r a _ H' s h1 h2 he
          · refine ⟨_, rfl, _, rfl, rfl, rfl, by decide, fun a ha => ⟨a, _, rfl, rfl, upd_same, fun H3 mk => ⟨rfl, ?_⟩⟩⟩
            exact rd2 rfl (made_same ha mk) (A.e (i := 14) rfl).xf ((A.e (i := 14) rfl).no _ (by simp)) ((A.e (i := 14) rfl).no _ (by simp)) (by decide) mk.1 fun p r H' s h1 h2 he => qy (by decide) (by decide) p r a _ H' s h1 h2 he
      · refine ⟨_, rfl, rfl, _, rfl, iteF ?_⟩
        refine ⟨_, rfl, rfl, _, rfl, iteF ?_⟩
        refine ⟨_, rfl, rfl, _, rfl, iteF ?_⟩
        refine ⟨_, rfl, rfl, _, rfl, iteF ?_⟩
        refine ⟨_, rfl, rfl, _, rfl, iteT ?_⟩
        refine ⟨_, rfl, rfl, _, rfl, ?_⟩
        refine ite2 (fun c => ?_) (fun c => ?_)
        · refine ⟨_, rfl, _, rfl, rfl, rfl, by decide, fun a ha => ⟨a, _, rfl, rfl, upd_same, fun H3 mk => ⟨rfl, ?_⟩⟩⟩
          exact rd2 rfl (made_same ha mk) (A.e (i := 15) rfl).xf ((A.e (i := 15) rfl).no _ (by simp)) ((A.e (i := 15) rfl).no _ (by simp)) (by decide) mk.1 fun p r H' s h1 h2 he => qy (by decide) (by decide) p r a _ H' s h1 h2 he
        · refine ⟨_, rfl, rfl, _, rfl, ?_⟩
          refine ite2 (fun c => ?_) (fun c => ?_)
          · refine ⟨_, rfl, _, rfl, rfl, rfl, by decide, fun a ha => ⟨a, _, rfl, rfl, upd_same, fun H3 mk => ⟨rfl, ?_⟩⟩⟩
            exact rd2 rfl (made_same ha mk) (A.e (i := 15) rfl).xf ((A.e (i := 15) rfl).no _ (by simp)) ((A.e (i := 15) rfl).no _ (by simp)) (by decide) mk.1 fun p r H' s h1 h2 he => qy (by decide) (by decide) p r a _ H' s h1 h2 he
          · refine ⟨_, rfl, _, rfl, rfl, rfl, by decide, fun a ha => ⟨a, _, rfl, rfl, upd_same, fun H3 mk => ⟨rfl, ?_⟩⟩⟩
            exact rd2 rfl (made_same ha mk) (A.e (i := 15) rfl).xf ((A.e (i := 15) rfl).no _ (by simp)) ((A.e (i := 15) rfl).no _ (by simp)) (by decide) mk.1 fun p r H' s h1 h2 he => qy (by decide) (by decide) p r a _ H' s h1 h2 he
      · refine ⟨_, rfl, rfl, _, rfl, iteF ?_⟩
        refine ⟨_, rfl, rfl, _, rfl, iteF ?_⟩
        refine ⟨_, rfl, rfl, _, rfl, iteF ?_⟩
        refine ⟨_, rfl, rfl, _, rfl, iteF ?_⟩
        refine ⟨_, rfl, rfl, _, rfl, iteF ?_⟩
        refine ⟨_, rfl, rfl, _, rfl, iteT ?_⟩
        refine ⟨_, rfl, _, _, rfl, rfl, _, rfl, ?_⟩
        refine ite2 (fun c => ?_) (fun c => ?_)
        · refine ⟨_, rfl, rfl, rfl, by decide, fun a ha => ⟨a, _, rfl, rfl, upd_same, fun H3 mk => ⟨rfl, ?_⟩⟩⟩
          exact rd1 rfl (made_same ha mk) (A.e (i := 16) rfl).xf ((A.e (i := 16) rfl).no _ (by simp)) mk.1 fun p r H' s h1 h2 he => qy (by decide) (by decide) p r a _ H' s h1 h2 he
        · refine ⟨_, rfl, rfl, rfl, by decide, fun a ha => ⟨a, _, rfl, rfl, upd_same, fun H3 mk => ⟨rfl, ?_⟩⟩⟩
          exact rd1 rfl (made_same ha mk) (A.e (i := 16) rfl).xf ((A.e (i := 16) rfl).no _ (by simp)) mk.1 fun p r H' s h1 h2 he => qy (by decide) (by decide) p r a _ H' s h1 h2 he
      · refine ⟨_, rfl, rfl, _, rfl, iteF ?_⟩
        refine ⟨_, rfl, rfl, _, rfl, iteF ?_⟩
        refine ⟨_, rfl, rfl, _, rfl, iteF ?_⟩
        refine ⟨_, rfl, rfl, _, rfl, iteF ?_⟩
        refine ⟨_, rfl, rfl, _, rfl, iteF ?_⟩
        refine ⟨_, rfl, rfl, _, rfl, iteF ?_⟩
        refine ⟨_, rfl, rfl, _, rfl, iteT ?_⟩
        refine ⟨_, rfl, _, _, rfl, rfl, _, rfl, ?_⟩
        refine ite2 (fun c => ?_) (fun c => ?_)
        · refine ⟨_, rfl, rfl, rfl, by decide, fun a ha => ⟨a, _, rfl, rfl, upd_same, fun H3 mk => ⟨rfl, ?_⟩⟩⟩
          exact rd1 rfl (made_same ha mk) (A.e (i := 17) rfl).xf ((A.e (i := 17) rfl).no _ (by simp)) mk.1 fun p r H' s h1 h2 he => qy (by decide) (by decide) p r a _ H' s h1 h2 he
        · refine ⟨_, rfl, rfl, rfl, by decide, fun a ha => ⟨a, _, rfl, rfl, upd_same, fun H3 mk => ⟨rfl, ?_⟩⟩⟩
          exact rd1 rfl (made_same ha mk) (A.e (i := 17) rfl).xf ((A.e (i := 17) rfl).no _ (by simp)) mk.1 fun p r H' s h1 h2 he => qy (by decide) (by decide) p r a _ H' s h1 h2 he
      · refine ⟨_, rfl, rfl, _, rfl, iteF ?_⟩
        refine ⟨_, rfl, rfl, _, rfl, iteF ?_⟩
        refine ⟨_, rfl, rfl, _, rfl, iteF ?_⟩
        refine ⟨_, rfl, rfl, _, rfl, iteF ?_⟩
        refine ⟨_, rfl, rfl, _, rfl, iteF ?_⟩
        refine ⟨_, rfl, rfl, _, rfl, iteF ?_⟩
        refine ⟨_, rfl, rfl, _, rfl, iteF ?_⟩
        refine ⟨_, rfl, rfl, _, rfl, iteT ?_⟩
        refine ⟨_, rfl, _, _, rfl, rfl, _, rfl, ?_⟩
        refine ite2 (fun c => ?_) (fun c => ?_)
        · refine ⟨_, rfl, rfl, rfl, by decide, fun a ha => ⟨a, _, rfl, rfl, upd_same, fun H3 mk => ⟨rfl, ?_⟩⟩⟩
          exact rd1 rfl (made_same ha mk) (A.e (i := 18) rfl).xf ((A.e (i := 18) rfl).no _ (by simp)) mk.1 fun p r H' s h1 h2 he => qy (by decide) (by decide) p r a _ H' s h1 h2 he
        · refine ⟨_, rfl, rfl, rfl, by decide, fun a ha => ⟨a, _, rfl, rfl, upd_same, fun H3 mk => ⟨rfl, ?_⟩⟩⟩
          exact rd1 rfl (made_same ha mk) (A.e (i := 18) rfl).xf ((A.e (i := 18) rfl).no _ (by simp)) mk.1 fun p r H' s h1 h2 he => qy (by decide) (by decide) p r a _ H' s h1 h2 he
      · refine ⟨_, rfl, rfl, _, rfl, iteF ?_⟩
        refine ⟨_, rfl, rfl, _, rfl, iteF ?_⟩
        refine ⟨_, rfl, rfl, _, rfl, iteF ?_⟩
        refine ⟨_, rfl, rfl, _, rfl, iteF ?_⟩
        refine ⟨_, rfl, rfl, _, rfl, iteF ?_⟩
        refine ⟨_, rfl, rfl, _, rfl, iteF ?_⟩
        refine ⟨_, rfl, rfl, _, rfl, iteF ?_⟩
        refine ⟨_, rfl, rfl, _, rfl, iteF ?_⟩
        refine ⟨_, rfl, rfl, _, rfl, iteT ?_⟩
        refine ⟨_, rfl, _, _, rfl, rfl, _, rfl, ?_⟩
        refine ite2 (fun c => ?_) (fun c => ?_)
        · refine ⟨_, rfl, rfl, rfl, by decide, fun a ha => ⟨a, _, rfl, rfl, upd_same, fun H3 mk => ⟨rfl, ?_⟩⟩⟩
          exact rd1 rfl (made_same ha mk) (A.e (i := 19) rfl).xf ((A.e (i := 19) rfl).no _ (by simp)) mk.1 fun p r H' s h1 h2 he => qy (by decide) (by decide) p r a _ H' s h1 h2 he
        · refine ⟨_, rfl, rfl, rfl, by decide, fun a ha => ⟨a, _, rfl, rfl, upd_same, fun H3 mk => ⟨rfl, ?_⟩⟩⟩
          exact rd1 rfl (made_same ha mk) (A.e (i := 19) rfl).xf ((A.e (i := 19) rfl).no _ (by simp)) mk.1 fun p r H' s h1 h2 he => qy (by decide) (by decide) p r a _ H' s h1 h2 he
      · refine ⟨_, rfl, rfl, _, rfl, iteF ?_⟩
        refine ⟨_, rfl, rfl, _, rfl, iteF ?_⟩
        refine ⟨_, rfl, rfl, _, rfl, iteF ?_⟩
        refine ⟨_, rfl, rfl, _, rfl, iteF ?_⟩
        refine ⟨_, rfl, rfl, _, rfl, iteF ?_⟩
        refine ⟨_, rfl, rfl, _, rfl, iteF ?_⟩
        refine ⟨_, rfl, rfl, _, rfl, iteF ?_⟩
        refine ⟨_, rfl, rfl, _, rfl, iteF ?_⟩
        refine ⟨_, rfl, rfl, _, rfl, iteF ?_⟩
        refine ⟨_, rfl, rfl, _, rfl, iteT ?_⟩
        refine ⟨rfl, rfl, by decide, fun a ha => ⟨a, _, rfl, rfl, upd_same, fun H3 mk => ⟨rfl, ?_⟩⟩⟩
        exact rd0 rfl (made_same ha mk) mk.1 fun p r H' s h1 h2 he => qy (by decide) (by decide) p r a _ H' s h1 h2 he
    · have qn := qn hin
      clear qy
      refine ⟨_, rfl, rfl, _, rfl, ?_⟩
      rw [decide_eq_false (show ¬ V.int k = V.int 11 from fun z => by have := V.int.inj z; omega)]
      refine iteF ?_
      refine ⟨_, rfl, rfl, _, rfl, ?_⟩
      rw [decide_eq_false (show ¬ V.int k = V.int 12 from fun z => by have := V.int.inj z; omega)]
      refine iteF ?_
      refine ⟨_, rfl, rfl, _, rfl, ?_⟩
      rw [decide_eq_false (show ¬ V.int k = V.int 13 from fun z => by have := V.int.inj z; omega)]
      refine iteF ?_
      refine ⟨_, rfl, rfl, _, rfl, ?_⟩
      rw [decide_eq_false (show ¬ V.int k = V.int 14 from fun z => by have := V.int.inj z; omega)]
      refine iteF ?_
      refine ⟨_, rfl, rfl, _, rfl, ?_⟩
      rw [decide_eq_false (show ¬ V.int k = V.int 15 from fun z => by have := V.int.inj z; omega)]
      refine iteF ?_
      refine ⟨_, rfl, rfl, _, rfl, ?_⟩
      rw [decide_eq_false (show ¬ V.int k = V.int 16 from fun z => by have := V.int.inj z; omega)]
      refine iteF ?_
      refine ⟨_, rfl, rfl, _, rfl, ?_⟩
      rw [decide_eq_false (show ¬ V.int k = V.int 17 from fun z => by have := V.int.inj z; omega)]
      refine iteF ?_
      refine ⟨_, rfl, rfl, _, rfl, ?_⟩
      rw [decide_eq_false (show ¬ V.int k = V.int 18 from fun z => by have := V.int.inj z; omega)]
      refine iteF ?_
      refine ⟨_, rfl, rfl, _, rfl, ?_⟩
      rw [decide_eq_false (show ¬ V.int k = V.int 19 from fun z => by have := V.int.inj z; omega)]
      refine iteF ?_
      refine ⟨_, rfl, rfl, _, rfl, ?_⟩
      rw [decide_eq_false (show ¬ V.int k = V.int 20 from fun z => by have := V.int.inj z; omega)]
      refine iteF ?_
      exact ⟨by show 0 ≤ sizeLine; decide, fun p hp => qn p _ (Same.new (Same.refl H) hp) upd_same⟩
theorem ok_high (F : Fun K "_law_high_made" "_law_high_made" s_high f fd) (A : All P w K mg base R L) : FnOk P w K mg base CX0 3 f fd ["_law_at", "_law_one", "_law_two", "_law_way"] (spPart L 21 30) := by
  refine F.ok sc_high (fun vs H Q E h => ?_) (fun cdv A' outer s H vs Q E hr h => ?_)
  · obtain ⟨k, way, x, y, rfl, _⟩ := h
    rfl
  · obtain ⟨k, way, x, y, rfl, k0, k1, qn, qy⟩ := h
    have hr1 := hr.mono (show 2 ≤ 2 by decide)
    obtain ⟨f_BadIndex, fd_BadIndex, M_BadIndex, F_BadIndex, BP_BadIndex, D_BadIndex⟩ := A.m (i := 21) rfl
    have BK0_BadIndex := D_BadIndex
    obtain ⟨f_NotOrder, fd_NotOrder, M_NotOrder, F_NotOrder, BP_NotOrder, D_NotOrder⟩ := A.m (i := 22) rfl
    obtain ⟨f_Ring, fd_Ring, M_Ring, F_Ring, BP_Ring, D_Ring⟩ := A.m (i := 23) rfl
    have BK0_Ring := D_Ring
    obtain ⟨f_BadRow, fd_BadRow, M_BadRow, F_BadRow, BP_BadRow, D_BadRow⟩ := A.m (i := 24) rfl
    have BK0_BadRow := D_BadRow
    obtain ⟨f_NoLayer, fd_NoLayer, M_NoLayer, F_NoLayer, BP_NoLayer, D_NoLayer⟩ := A.m (i := 25) rfl
    have BK0_NoLayer := D_NoLayer
    obtain ⟨f_Touch, fd_Touch, M_Touch, F_Touch, BP_Touch, D_Touch⟩ := A.m (i := 26) rfl
    obtain ⟨BK_Touch, BK0_Touch⟩ := D_Touch
    obtain ⟨f_Hangs, fd_Hangs, M_Hangs, F_Hangs, BP_Hangs, D_Hangs⟩ := A.m (i := 27) rfl
    have BK0_Hangs := D_Hangs
    obtain ⟨f_Outside, fd_Outside, M_Outside, F_Outside, BP_Outside, D_Outside⟩ := A.m (i := 28) rfl
    have BK0_Outside := D_Outside
    obtain ⟨f_Loses, fd_Loses, M_Loses, F_Loses, BP_Loses, D_Loses⟩ := A.m (i := 29) rfl
    have BK0_Loses := D_Loses
    obtain ⟨f_BadText, fd_BadText, M_BadText, F_BadText, BP_BadText, D_BadText⟩ := A.m (i := 30) rfl
    obtain ⟨BK_BadText, BK0_BadText⟩ := D_BadText
    refine ⟨_, (pss_cons (ps_if (pt_cmpR op_eq (pv 0) pe_int (nomark _))
      (pss_cons (ps_set (i := 4) sc_high.nd rfl (.inl rfl) (pe_ifExp (pt_cmpR op_lt (pv 3) pe_int (nomark _)) (pe_errP M_BadIndex F_BadIndex hr1 (by rfl) (A.e (i := 21) rfl).g BP_BadIndex (pa_cons (pv 1) pa_nil)) (pe_errK0 M_BadIndex F_BadIndex hr1 (by rfl) (A.e (i := 21) rfl).g BK0_BadIndex (pk_cons (pv 1) pk_nil))))
      (pss_one (ps_ret (pe_lst (pa_cons (pv 4) (pa_cons (pe_lst (pa_cons (pe_eat (pv 4)) pa_nil)) pa_nil)))))) pss_nil)
      (pss_cons (ps_if (pt_cmpR op_eq (pv 0) pe_int (nomark _))
      (pss_cons (ps_set (i := 4) sc_high.nd rfl (.inl rfl) (pe_err0 M_NotOrder F_NotOrder hr1 (by rfl) (A.e (i := 22) rfl).g BP_NotOrder))
      (pss_one (ps_ret (pe_lst (pa_cons (pv 4) (pa_cons (pe_lst pa_nil) pa_nil)))))) pss_nil)
      (pss_cons (ps_if (pt_cmpR op_eq (pv 0) pe_int (nomark _))
      (pss_cons (ps_set (i := 4) sc_high.nd rfl (.inl rfl) (pe_ifExp (pt_cmpR op_lt (pv 3) pe_int (nomark _)) (pe_errP M_Ring F_Ring hr1 (by rfl) (A.e (i := 23) rfl).g BP_Ring (pa_cons (pv 1) pa_nil)) (pe_errK0 M_Ring F_Ring hr1 (by rfl) (A.e (i := 23) rfl).g BK0_Ring (pk_cons (pv 1) pk_nil))))
      (pss_one (ps_ret (pe_lst (pa_cons (pv 4) (pa_cons (pe_lst (pa_cons (pe_eat (pv 4)) pa_nil)) pa_nil)))))) pss_nil)
      (pss_cons (ps_if (pt_cmpR op_eq (pv 0) pe_int (nomark _))
      (pss_cons (ps_set (i := 4) sc_high.nd rfl (.inl rfl) (pe_ifExp (pt_cmpR op_lt (pv 3) pe_int (nomark _)) (pe_errP M_BadRow F_BadRow hr1 (by rfl) (A.e (i := 24) rfl).g BP_BadRow (pa_cons (pv 1) pa_nil)) (pe_errK0 M_BadRow F_BadRow hr1 (by rfl) (A.e (i := 24) rfl).g BK0_BadRow (pk_cons (pv 1) pk_nil))))
      (pss_one (ps_ret (pe_lst (pa_cons (pv 4) (pa_cons (pe_lst (pa_cons (pe_eat (pv 4)) pa_nil)) pa_nil)))))) pss_nil)
      (pss_cons (ps_if (pt_cmpR op_eq (pv 0) pe_int (nomark _))
      (pss_cons (ps_set (i := 4) sc_high.nd rfl (.inl rfl) (pe_ifExp (pt_cmpR op_lt (pv 3) pe_int (nomark _)) (pe_errP M_NoLayer F_NoLayer hr1 (by rfl) (A.e (i := 25) rfl).g BP_NoLayer (pa_cons (pv 1) pa_nil)) (pe_errK0 M_NoLayer F_NoLayer hr1 (by rfl) (A.e (i := 25) rfl).g BK0_NoLayer (pk_cons (pv 1) pk_nil))))
      (pss_one (ps_ret (pe_lst (pa_cons (pv 4) (pa_cons (pe_lst (pa_cons (pe_eat (pv 4)) pa_nil)) pa_nil)))))) pss_nil)
      (pss_cons (ps_if (pt_cmpR op_eq (pv 0) pe_int (nomark _))
      (pss_cons (ps_set (i := 4) sc_high.nd rfl (.inl rfl) (pe_ifExp (pt_cmpR op_eq (pv 3) pe_int (nomark _)) (pe_errP M_Touch F_Touch hr1 (by rfl) (A.e (i := 26) rfl).g BP_Touch (pa_cons (pv 1) (pa_cons (pv 2) pa_nil))) (pe_ifExp (pt_cmpR op_eq (pv 3) pe_int (nomark _)) (pe_errK M_Touch F_Touch hr1 (by rfl) (A.e (i := 26) rfl).g BK_Touch (pa_cons (pv 1) pa_nil) (pk_cons (pv 2) pk_nil)) (pe_errK0 M_Touch F_Touch hr1 (by rfl) (A.e (i := 26) rfl).g BK0_Touch (pk_cons (pv 2) (pk_cons (pv 1) pk_nil))))))
      (pss_one (ps_ret (pe_lst (pa_cons (pv 4) (pa_cons (pe_lst (pa_cons (pe_eat (pv 4)) (pa_cons (pe_eat (pv 4)) pa_nil))) pa_nil)))))) pss_nil)
      (pss_cons (ps_if (pt_cmpR op_eq (pv 0) pe_int (nomark _))
      (pss_cons (ps_set (i := 4) sc_high.nd rfl (.inl rfl) (pe_ifExp (pt_cmpR op_lt (pv 3) pe_int (nomark _)) (pe_errP M_Hangs F_Hangs hr1 (by rfl) (A.e (i := 27) rfl).g BP_Hangs (pa_cons (pv 1) pa_nil)) (pe_errK0 M_Hangs F_Hangs hr1 (by rfl) (A.e (i := 27) rfl).g BK0_Hangs (pk_cons (pv 1) pk_nil))))
      (pss_one (ps_ret (pe_lst (pa_cons (pv 4) (pa_cons (pe_lst (pa_cons (pe_eat (pv 4)) pa_nil)) pa_nil)))))) pss_nil)
      (pss_cons (ps_if (pt_cmpR op_eq (pv 0) pe_int (nomark _))
      (pss_cons (ps_set (i := 4) sc_high.nd rfl (.inl rfl) (pe_ifExp (pt_cmpR op_lt (pv 3) pe_int (nomark _)) (pe_errP M_Outside F_Outside hr1 (by rfl) (A.e (i := 28) rfl).g BP_Outside (pa_cons (pv 1) pa_nil)) (pe_errK0 M_Outside F_Outside hr1 (by rfl) (A.e (i := 28) rfl).g BK0_Outside (pk_cons (pv 1) pk_nil))))
      (pss_one (ps_ret (pe_lst (pa_cons (pv 4) (pa_cons (pe_lst (pa_cons (pe_eat (pv 4)) pa_nil)) pa_nil)))))) pss_nil)
      (pss_cons (ps_if (pt_cmpR op_eq (pv 0) pe_int (nomark _))
      (pss_cons (ps_set (i := 4) sc_high.nd rfl (.inl rfl) (pe_ifExp (pt_cmpR op_lt (pv 3) pe_int (nomark _)) (pe_errP M_Loses F_Loses hr1 (by rfl) (A.e (i := 29) rfl).g BP_Loses (pa_cons (pv 1) pa_nil)) (pe_errK0 M_Loses F_Loses hr1 (by rfl) (A.e (i := 29) rfl).g BK0_Loses (pk_cons (pv 1) pk_nil))))
      (pss_one (ps_ret (pe_lst (pa_cons (pv 4) (pa_cons (pe_lst (pa_cons (pe_eat (pv 4)) pa_nil)) pa_nil)))))) pss_nil)
      (pss_cons (ps_if (pt_cmpR op_eq (pv 0) pe_int (nomark _))
      (pss_cons (ps_set (i := 4) sc_high.nd rfl (.inl rfl) (pe_ifExp (pt_cmpR op_eq (pv 3) pe_int (nomark _)) (pe_errP M_BadText F_BadText hr1 (by rfl) (A.e (i := 30) rfl).g BP_BadText (pa_cons (pv 1) (pa_cons (pv 2) pa_nil))) (pe_ifExp (pt_cmpR op_eq (pv 3) pe_int (nomark _)) (pe_errK M_BadText F_BadText hr1 (by rfl) (A.e (i := 30) rfl).g BK_BadText (pa_cons (pv 1) pa_nil) (pk_cons (pv 2) pk_nil)) (pe_errK0 M_BadText F_BadText hr1 (by rfl) (A.e (i := 30) rfl).g BK0_BadText (pk_cons (pv 2) (pk_cons (pv 1) pk_nil))))))
      (pss_one (ps_ret (pe_lst (pa_cons (pv 4) (pa_cons (pe_lst (pa_cons (pe_eat (pv 4)) (pa_cons (pe_eat (pv 4)) pa_nil))) pa_nil)))))) pss_nil)
      (pss_one (ps_ret (pe_lst pa_nil))))))))))))), ?_⟩
    by_cases hin : 21 ≤ k ∧ k ≤ 30
    · obtain ⟨hl, hu⟩ := hin
      have hk : k = 21 ∨ k = 22 ∨ k = 23 ∨ k = 24 ∨ k = 25 ∨ k = 26 ∨ k = 27 ∨ k = 28 ∨ k = 29 ∨ k = 30 := by omega
      clear k0 k1 hl hu qn
      rcases hk with rfl | rfl | rfl | rfl | rfl | rfl | rfl | rfl | rfl | rfl
      · refine ⟨_, rfl, rfl, _, rfl, iteT ?_⟩
        refine ⟨_, rfl, _, _, rfl, rfl, _, rfl, ?_⟩
        refine ite2 (fun c => ?_) (fun c => ?_)
        · refine ⟨_, rfl, rfl, rfl, by decide, fun a ha => ⟨a, _, rfl, rfl, upd_same, fun H3 mk => ⟨rfl, ?_⟩⟩⟩
          exact rd1 rfl (made_same ha mk) (A.e (i := 21) rfl).xf ((A.e (i := 21) rfl).no _ (by simp)) mk.1 fun p r H' s h1 h2 he => qy (by decide) (by decide) p r a _ H' s h1 h2 he
        · refine ⟨_, rfl, rfl, rfl, by decide, fun a ha => ⟨a, _, rfl, rfl, upd_same, fun H3 mk => ⟨rfl, ?_⟩⟩⟩
          exact rd1 rfl (made_same ha mk) (A.e (i := 21) rfl).xf ((A.e (i := 21) rfl).no _ (by simp)) mk.1 fun p r H' s h1 h2 he => qy (by decide) (by decide) p r a _ H' s h1 h2 he
      · refine ⟨_, rfl, rfl, _, rfl, iteF ?_⟩
        refine ⟨_, rfl, rfl, _, rfl, iteT ?_⟩
        refine ⟨rfl, rfl, by decide, fun a ha => ⟨a, _, rfl, rfl, upd_same, fun H3 mk => ⟨rfl, ?_⟩⟩⟩
        exact rd0 rfl (made_same ha mk) mk.1 fun p r H' s h1 h2 he => qy (by decide) (by decide) p r a _ H' s h1 h2 he
      · refine ⟨_, rfl, rfl, _, rfl, iteF ?_⟩
        refine ⟨_, rfl, rfl, _, rfl, iteF ?_⟩
        refine ⟨_, rfl, rfl, _, rfl, iteT ?_⟩
        refine ⟨_, rfl, _, _, rfl, rfl, _, rfl, ?_⟩
        refine ite2 (fun c => ?_) (fun c => ?_)
        · refine ⟨_, rfl, rfl, rfl, by decide, fun a ha => ⟨a, _, rfl, rfl, upd_same, fun H3 mk => ⟨rfl, ?_⟩⟩⟩
          exact rd1 rfl (made_same ha mk) (A.e (i := 23) rfl).xf ((A.e (i := 23) rfl).no _ (by simp)) mk.1 fun p r H' s h1 h2 he => qy (by decide) (by decide) p r a _ H' s h1 h2 he
        · refine ⟨_, rfl, rfl, rfl, by decide, fun a ha => ⟨a, _, rfl, rfl, upd_same, fun H3 mk => ⟨rfl, ?_⟩⟩⟩
          exact rd1 rfl (made_same ha mk) (A.e (i := 23) rfl).xf ((A.e (i := 23) rfl).no _ (by simp)) mk.1 fun p r H' s h1 h2 he => qy (by decide) (by decide) p r a _ H' s h1 h2 he
      · refine ⟨_, rfl, rfl, _, rfl, iteF ?_⟩
        refine ⟨_, rfl, rfl, _, rfl, iteF ?_⟩
        refine ⟨_, rfl, rfl, _, rfl, iteF ?_⟩
        refine ⟨_, rfl, rfl, _, rfl, iteT ?_⟩
        refine ⟨_, rfl, _, _, rfl, rfl, _, rfl, ?_⟩
        refine ite2 (fun c => ?_) (fun c => ?_)
        · refine ⟨_, rfl, rfl, rfl, by decide, fun a ha => ⟨a, _, rfl, rfl, upd_same, fun H3 mk => ⟨rfl, ?_⟩⟩⟩
          exact rd1 rfl (made_same ha mk) (A.e (i := 24) rfl).xf ((A.e (i := 24) rfl).no _ (by simp)) mk.1 fun p r H' s h1 h2 he => qy (by decide) (by decide) p r a _ H' s h1 h2 he
        · refine ⟨_, rfl, rfl, rfl, by decide, fun a ha => ⟨a, _, rfl, rfl, upd_same, fun H3 mk => ⟨rfl, ?_⟩⟩⟩
          exact rd1 rfl (made_same ha mk) (A.e (i := 24) rfl).xf ((A.e (i := 24) rfl).no _ (by simp)) mk.1 fun p r H' s h1 h2 he => qy (by decide) (by decide) p r a _ H' s h1 h2 he
      · refine ⟨_, rfl, rfl, _, rfl, iteF ?_⟩
        refine ⟨_, rfl, rfl, _, rfl, iteF ?_⟩
        refine ⟨_, rfl, rfl, _, rfl, iteF ?_⟩
        refine ⟨_, rfl, rfl, _, rfl, iteF ?_⟩
        refine ⟨_, rfl, rfl, _, rfl, iteT ?_⟩
        refine ⟨_, rfl, _, _, rfl, rfl, _, rfl, ?_⟩
        refine ite2 (fun c => ?_) (fun c => ?_)
        · refine ⟨_, rfl, rfl, rfl, by decide, fun a ha => ⟨a, _, rfl, rfl, upd_same, fun H3 mk => ⟨rfl, ?_⟩⟩⟩
          exact rd1 rfl (made_same ha mk) (A.e (i := 25) rfl).xf ((A.e (i := 25) rfl).no _ (by simp)) mk.1 fun p r H' s h1 h2 he => qy (by decide) (by decide) p r a _ H' s h1 h2 he
        · refine ⟨_, rfl, rfl, rfl, by decide, fun a ha => ⟨a, _, rfl, rfl, upd_same, fun H3 mk => ⟨rfl, ?_⟩⟩⟩
          exact rd1 rfl (made_same ha mk) (A.e (i := 25) rfl).xf ((A.e (i := 25) rfl).no _ (by simp)) mk.1 fun p r H' s h1 h2 he => qy (by decide) (by decide) p r a _ H' s h1 h2 he
      · refine ⟨_, rfl, rfl, _, rfl, iteF ?_⟩
        refine ⟨_, rfl, rfl, _, rfl, iteF ?_⟩
        refine ⟨_, rfl, rfl, _, rfl, iteF ?_⟩
        refine ⟨_, rfl, rfl, _, rfl, iteF ?_⟩
        refine ⟨_, rfl, rfl, _, rfl, iteF ?_⟩
        refine ⟨_, rfl, rfl, _, rfl, iteT ?_⟩
        refine ⟨_, rfl, rfl, _, rfl, ?_⟩
        refine ite2 (fun c => ?_) (fun c => ?_)
        · refine ⟨_, rfl, _, rfl, rfl, rfl, by decide, fun a ha => ⟨a, _, rfl, rfl, upd_same, fun H3 mk => ⟨rfl, ?_⟩⟩⟩
          exact rd2 rfl (made_same ha mk) (A.e (i := 26) rfl).xf ((A.e (i := 26) rfl).no _ (by simp)) ((A.e (i := 26) rfl).no _ (by simp)) (by decide) mk.1 fun p r H' s h1 h2 he => qy (by decide) (by decide) p r a _ H' s h1 h2 he
        · refine ⟨_, rfl, rfl, _, rfl, ?_⟩
          refine ite2 (fun c => ?_) (fun c => ?_)
          · refine ⟨_, rfl, _, rfl, rfl, rfl, by decide, fun a ha => ⟨a, _, rfl, rfl, upd_same, fun H3 mk => ⟨rfl, ?_⟩⟩⟩
            exact rd2 rfl (made_same ha mk) (A.e (i := 26) rfl).xf ((A.e (i := 26) rfl).no _ (by simp)) ((A.e (i := 26) rfl).no _ (by simp)) (by decide) mk.1 fun p r H' s h1 h2 he => qy (by decide) (by decide) p r a _ H' s h1 h2 he
          · refine ⟨_, rfl, _, rfl, rfl, rfl, by decide, fun a ha => ⟨a, _, rfl, rfl, upd_same, fun H3 mk => ⟨rfl, ?_⟩⟩⟩
            exact rd2 rfl (made_same ha mk) (A.e (i := 26) rfl).xf ((A.e (i := 26) rfl).no _ (by simp)) ((A.e (i := 26) rfl).no _ (by simp)) (by decide) mk.1 fun p r H' s h1 h2 he => qy (by decide) (by decide) p r a _ H' s h1 h2 he
      · refine ⟨_, rfl, rfl, _, rfl, iteF ?_⟩
        refine ⟨_, rfl, rfl, _, rfl, iteF ?_⟩
        refine ⟨_, rfl, rfl, _, rfl, iteF ?_⟩
        refine ⟨_, rfl, rfl, _, rfl, iteF ?_⟩
        refine ⟨_, rfl, rfl, _, rfl, iteF ?_⟩
        refine ⟨_, rfl, rfl, _, rfl, iteF ?_⟩
        refine ⟨_, rfl, rfl, _, rfl, iteT ?_⟩
        refine ⟨_, rfl, _, _, rfl, rfl, _, rfl, ?_⟩
        refine ite2 (fun c => ?_) (fun c => ?_)
        · refine ⟨_, rfl, rfl, rfl, by decide, fun a ha => ⟨a, _, rfl, rfl, upd_same, fun H3 mk => ⟨rfl, ?_⟩⟩⟩
          exact rd1 rfl (made_same ha mk) (A.e (i := 27) rfl).xf ((A.e (i := 27) rfl).no _ (by simp)) mk.1 fun p r H' s h1 h2 he => qy (by decide) (by decide) p r a _ H' s h1 h2 he
        · refine ⟨_, rfl, rfl, rfl, by decide, fun a ha => ⟨a, _, rfl, rfl, upd_same, fun H3 mk => ⟨rfl, ?_⟩⟩⟩
          exact rd1 rfl (made_same ha mk) (A.e (i := 27) rfl).xf ((A.e (i := 27) rfl).no _ (by simp)) mk.1 fun p r H' s h1 h2 he => qy (by decide) (by decide) p r a _ H' s h1 h2 he
      · refine ⟨_, rfl, rfl, _, rfl, iteF ?_⟩
        refine ⟨_, rfl, rfl, _, rfl, iteF ?_⟩
        refine ⟨_, rfl, rfl, _, rfl, iteF ?_⟩
        refine ⟨_, rfl, rfl, _, rfl, iteF ?_⟩
        refine ⟨_, rfl, rfl, _, rfl, iteF ?_⟩
        refine ⟨_, rfl, rfl, _, rfl, iteF ?_⟩
        refine ⟨_, rfl, rfl, _, rfl, iteF ?_⟩
        refine ⟨_, rfl, rfl, _, rfl, iteT ?_⟩
        refine ⟨_, rfl, _, _, rfl, rfl, _, rfl, ?_⟩
        refine ite2 (fun c => ?_) (fun c => ?_)
        · refine ⟨_, rfl, rfl, rfl, by decide, fun a ha => ⟨a, _, rfl, rfl, upd_same, fun H3 mk => ⟨rfl, ?_⟩⟩⟩
          exact rd1 rfl (made_same ha mk) (A.e (i := 28) rfl).xf ((A.e (i := 28) rfl).no _ (by simp)) mk.1 fun p r H' s h1 h2 he => qy (by decide) (by decide) p r a _ H' s h1 h2 he
        · refine ⟨_, rfl, rfl, rfl, by decide, fun a ha => ⟨a, _, rfl, rfl, upd_same, fun H3 mk => ⟨rfl, ?_⟩⟩⟩
          exact rd1 rfl (made_same ha mk) (A.e (i := 28) rfl).xf ((A.e (i := 28) rfl).no _ (by simp)) mk.1 fun p r H' s h1 h2 he => qy (by decide) (by decide) p r a _ H' s h1 h2 he
      · refine ⟨_, rfl, rfl, _, rfl, iteF ?_⟩
        refine ⟨_, rfl, rfl, _, rfl, iteF ?_⟩
        refine ⟨_, rfl, rfl, _, rfl, iteF ?_⟩
        refine ⟨_, rfl, rfl, _, rfl, iteF ?_⟩
        refine ⟨_, rfl, rfl, _, rfl, iteF ?_⟩
        refine ⟨_, rfl, rfl, _, rfl, iteF ?_⟩
        refine ⟨_, rfl, rfl, _, rfl, iteF ?_⟩
        refine ⟨_, rfl, rfl, _, rfl, iteF ?_⟩
        refine ⟨_, rfl, rfl, _, rfl, iteT ?_⟩
        refine ⟨_, rfl, _, _, rfl, rfl, _, rfl, ?_⟩
        refine ite2 (fun c => ?_) (fun c => ?_)
        · refine ⟨_, rfl, rfl, rfl, by decide, fun a ha => ⟨a, _, rfl, rfl, upd_same, fun H3 mk => ⟨rfl, ?_⟩⟩⟩
          exact rd1 rfl (made_same ha mk) (A.e (i := 29) rfl).xf ((A.e (i := 29) rfl).no _ (by simp)) mk.1 fun p r H' s h1 h2 he => qy (by decide) (by decide) p r a _ H' s h1 h2 he
        · refine ⟨_, rfl, rfl, rfl, by decide, fun a ha => ⟨a, _, rfl, rfl, upd_same, fun H3 mk => ⟨rfl, ?_⟩⟩⟩
          exact rd1 rfl (made_same ha mk) (A.e (i := 29) rfl).xf ((A.e (i := 29) rfl).no _ (by simp)) mk.1 fun p r H' s h1 h2 he => qy (by decide) (by decide) p r a _ H' s h1 h2 he
      · refine ⟨_, rfl, rfl, _, rfl, iteF ?_⟩
        refine ⟨_, rfl, rfl, _, rfl, iteF ?_⟩
        refine ⟨_, rfl, rfl, _, rfl, iteF ?_⟩
        refine ⟨_, rfl, rfl, _, rfl, iteF ?_⟩
        refine ⟨_, rfl, rfl, _, rfl, iteF ?_⟩
        refine ⟨_, rfl, rfl, _, rfl, iteF ?_⟩
        refine ⟨_, rfl, rfl, _, rfl, iteF ?_⟩
        refine ⟨_, rfl, rfl, _, rfl, iteF ?_⟩
        refine ⟨_, rfl, rfl, _, rfl, iteF ?_⟩
        refine ⟨_, rfl, rfl, _, rfl, iteT ?_⟩
        refine ⟨_, rfl, rfl, _, rfl, ?_⟩
        refine ite2 (fun c => ?_) (fun c => ?_)
        · refine ⟨_, rfl, _, rfl, rfl, rfl, by decide, fun a ha => ⟨a, _, rfl, rfl, upd_same, fun H3 mk => ⟨rfl, ?_⟩⟩⟩
          exact rd2 rfl (made_same ha mk) (A.e (i := 30) rfl).xf ((A.e (i := 30) rfl).no _ (by simp)) ((A.e (i := 30) rfl).no _ (by simp)) (by decide) mk.1 fun p r H' s h1 h2 he => qy (by decide) (by decide) p r a _ H' s h1 h2 he
        · refine ⟨_, rfl, rfl, _, rfl, ?_⟩
          refine ite2 (fun c => ?_) (fun c => ?_)
          · refine ⟨_, rfl, _, rfl, rfl, rfl, by decide, fun a ha => ⟨a, _, rfl, rfl, upd_same, fun H3 mk => ⟨rfl, ?_⟩⟩⟩
            exact rd2 rfl (made_same ha mk) (A.e (i := 30) rfl).xf ((A.e (i := 30) rfl).no _ (by simp)) ((A.e (i := 30) rfl).no _ (by simp)) (by decide) mk.1 fun p r H' s h1 h2 he => qy (by decide) (by decide) p r a _ H' s h1 h2 he
          · refine ⟨_, rfl, _, rfl, rfl, rfl, by decide, fun a ha => ⟨a, _, rfl, rfl, upd_same, fun H3 mk => ⟨rfl, ?_⟩⟩⟩
            exact rd2 rfl (made_same ha mk) (A.e (i := 30) rfl).xf ((A.e (i := 30) rfl).no _ (by simp)) ((A.e (i := 30) rfl).no _ (by simp)) (by decide) mk.1 fun p r H' s h1 h2 he => qy (by decide) (by decide) p r a _ H' s h1 h2 he
    · have qn := qn hin
      clear qy
      refine ⟨_, rfl, rfl, _, rfl, ?_⟩
      rw [decide_eq_false (show ¬ V.int k = V.int 21 from fun z => by have := V.int.inj z; omega)]
      refine iteF ?_
      refine ⟨_, rfl, rfl, _, rfl, ?_⟩
      rw [decide_eq_false (show ¬ V.int k = V.int 22 from fun z => by have := V.int.inj z; omega)]
      refine iteF ?_
      refine ⟨_, rfl, rfl, _, rfl, ?_⟩
      rw [decide_eq_false (show ¬ V.int k = V.int 23 from fun z => by have := V.int.inj z; omega)]
      refine iteF ?_
      refine ⟨_, rfl, rfl, _, rfl, ?_⟩
      rw [decide_eq_false (show ¬ V.int k = V.int 24 from fun z => by have := V.int.inj z; omega)]
      refine iteF ?_
      refine ⟨_, rfl, rfl, _, rfl, ?_⟩
      rw [decide_eq_false (show ¬ V.int k = V.int 25 from fun z => by have := V.int.inj z; omega)]
      refine iteF ?_
      refine ⟨_, rfl, rfl, _, rfl, ?_⟩
      rw [decide_eq_false (show ¬ V.int k = V.int 26 from fun z => by have := V.int.inj z; omega)]
      refine iteF ?_
      refine ⟨_, rfl, rfl, _, rfl, ?_⟩
      rw [decide_eq_false (show ¬ V.int k = V.int 27 from fun z => by have := V.int.inj z; omega)]
      refine iteF ?_
      refine ⟨_, rfl, rfl, _, rfl, ?_⟩
      rw [decide_eq_false (show ¬ V.int k = V.int 28 from fun z => by have := V.int.inj z; omega)]
      refine iteF ?_
      refine ⟨_, rfl, rfl, _, rfl, ?_⟩
      rw [decide_eq_false (show ¬ V.int k = V.int 29 from fun z => by have := V.int.inj z; omega)]
      refine iteF ?_
      refine ⟨_, rfl, rfl, _, rfl, ?_⟩
      rw [decide_eq_false (show ¬ V.int k = V.int 30 from fun z => by have := V.int.inj z; omega)]
      refine iteF ?_
      exact ⟨by show 0 ≤ sizeLine; decide, fun p hp => qn p _ (Same.new (Same.refl H) hp) upd_same⟩
end
end Ko

namespace Ko
open PySem L2 PySem.Spec PyProof.Rows
abbrev s_rl : Stmt := top 46
theorem sc_rl : FnScope ["_law_at", "_law_one", "_law_two"] ["_law_at", "_law_one", "_law_two"] (defScope s_rl) := ⟨rfl, rfl, rfl, by decide +kernel, rfl, by decide +kernel, by decide +kernel⟩
abbrev s_rh : Stmt := top 47
theorem sc_rh : FnScope ["_law_at", "_law_one", "_law_two"] ["_law_at", "_law_one", "_law_two"] (defScope s_rh) := ⟨rfl, rfl, rfl, by decide +kernel, rfl, by decide +kernel, by decide +kernel⟩
abbrev s_caught : Stmt := top 49
theorem sc_caught : FnScope ["_law_at", "_law_one", "_law_two", "e"] ["_law_at", "_law_one", "_law_two"] (defScope s_caught) := ⟨rfl, rfl, rfl, by decide +kernel, rfl, by decide +kernel, by decide +kernel⟩

/-- the error with this number raised if it is one of lo to hi; else nothing -/
def spRaise (L : List Addr) (lo hi : Int) : Sp := fun vs H Q E => ∃ (k : Int) (x y : V), vs = [.int k, x, y] ∧ 0 ≤ k ∧ k < 31 ∧ (lo ≤ k → k ≤ hi → ∀ (d : Option Addr) (H' : Hp), Same H H' → (∀ dx, d = some dx → ∃ fs, H' dx = some (exd dx fs)) → E (.ref (cA L k.toNat)) d H') ∧
  (¬ (lo ≤ k ∧ k ≤ hi) → Q .non H)
section
variable {P : Program} {w : World} {K : PySem.W.Frag} {mg : Str → Option Value} {base : Heap} {R : Addr} {L : List Addr} {f : Addr} {fd : FuncData}
/-- an error just made is raised -/
theorem rdR {H H3 : Hp} {a C : Addr} {fs : List (Str × V)} {Rz : Value → Prop} {Q : XK} (ha : H a = none) (mk : Made (upd H a (exo a C none)) H3 a C fs) (hr : Rz (.ref C))
    (q : ∀ (d : Option Addr) (H' : Hp), Same H H' → (∀ dx, d = some dx → ∃ fs, H' dx = some (exd dx fs)) → Q (.ref C) d H') :
    ∃ (a' C' : Addr) (d : Option Addr), V.ref a = .ref a' ∧ H3 a' = some (exo a' C' d) ∧ Fr0 H a' ∧ Rz (.ref C') ∧ Q (.ref C') d (delH H3 a') := by
  have s : Same H (delH H3 a) := fun p o e => by
    rw [delH_ne (ne_of_none e ha)]
    exact made_same ha mk p o e
  rcases mk.1 with ⟨_, e⟩ | ⟨d, ne, e, ed⟩
  · exact ⟨a, C, none, rfl, e, fr0_none ha, hr, q none _ s fun dx z => by cases z⟩
  · refine ⟨a, C, some d, rfl, e, fr0_none ha, hr, q (some d) _ s fun dx z => ?_⟩
    cases z
    exact ⟨fs, by rw [delH_ne ne]; exact ed⟩
theorem ok_rl (F : Fun K "_law_raise_low" "_law_raise_low" s_rl f fd) (A : All P w K mg base R L) : FnOk P w K mg base (L2.CX P w) 3 f fd ["_law_at", "_law_one", "_law_two"] (spRaise L 0 15) := by
  refine F.okX sc_rl (fun vs H Q E h => ?_) (fun cdv A' outer s H vs Q E hr h => ?_)
  · obtain ⟨k, x, y, rfl, _⟩ := h
    rfl
  · obtain ⟨k, x, y, rfl, k0, k1, qy, qn⟩ := h
    have hr1 := hr.mono (show 2 ≤ 2 by decide)
    obtain ⟨f_BadNumber, fd_BadNumber, M_BadNumber, F_BadNumber, BP_BadNumber, D_BadNumber⟩ := A.m (i := 0) rfl
    have BK0_BadNumber := D_BadNumber
    obtain ⟨f_BadRule, fd_BadRule, M_BadRule, F_BadRule, BP_BadRule, D_BadRule⟩ := A.m (i := 1) rfl
    have BK0_BadRule := D_BadRule
    obtain ⟨f_BadMode, fd_BadMode, M_BadMode, F_BadMode, BP_BadMode, D_BadMode⟩ := A.m (i := 2) rfl
    have BK0_BadMode := D_BadMode
    obtain ⟨f_BadPoint, fd_BadPoint, M_BadPoint, F_BadPoint, BP_BadPoint, D_BadPoint⟩ := A.m (i := 3) rfl
    have BK0_BadPoint := D_BadPoint
    obtain ⟨f_BadNet, fd_BadNet, M_BadNet, F_BadNet, BP_BadNet, D_BadNet⟩ := A.m (i := 4) rfl
    obtain ⟨BK_BadNet, BK0_BadNet⟩ := D_BadNet
    obtain ⟨f_BadLoft, fd_BadLoft, M_BadLoft, F_BadLoft, BP_BadLoft, D_BadLoft⟩ := A.m (i := 5) rfl
    obtain ⟨f_NotClosed, fd_NotClosed, M_NotClosed, F_NotClosed, BP_NotClosed, D_NotClosed⟩ := A.m (i := 6) rfl
    have BK0_NotClosed := D_NotClosed
    obtain ⟨f_NotTwo, fd_NotTwo, M_NotTwo, F_NotTwo, BP_NotTwo, D_NotTwo⟩ := A.m (i := 7) rfl
    have BK0_NotTwo := D_NotTwo
    obtain ⟨f_Twisted, fd_Twisted, M_Twisted, F_Twisted, BP_Twisted, D_Twisted⟩ := A.m (i := 8) rfl
    have BK0_Twisted := D_Twisted
    obtain ⟨f_Singular, fd_Singular, M_Singular, F_Singular, BP_Singular, D_Singular⟩ := A.m (i := 9) rfl
    obtain ⟨f_BadHeights, fd_BadHeights, M_BadHeights, F_BadHeights, BP_BadHeights, D_BadHeights⟩ := A.m (i := 10) rfl
    obtain ⟨f_BadSetup, fd_BadSetup, M_BadSetup, F_BadSetup, BP_BadSetup, D_BadSetup⟩ := A.m (i := 11) rfl
    have BK0_BadSetup := D_BadSetup
    obtain ⟨f_BadLayers, fd_BadLayers, M_BadLayers, F_BadLayers, BP_BadLayers, D_BadLayers⟩ := A.m (i := 12) rfl
    have BK0_BadLayers := D_BadLayers
    obtain ⟨f_NoPoint, fd_NoPoint, M_NoPoint, F_NoPoint, BP_NoPoint, D_NoPoint⟩ := A.m (i := 13) rfl
    obtain ⟨BK_NoPoint, BK0_NoPoint⟩ := D_NoPoint
    obtain ⟨f_Laid, fd_Laid, M_Laid, F_Laid, BP_Laid, D_Laid⟩ := A.m (i := 14) rfl
    obtain ⟨BK_Laid, BK0_Laid⟩ := D_Laid
    obtain ⟨f_NoProp, fd_NoProp, M_NoProp, F_NoProp, BP_NoProp, D_NoProp⟩ := A.m (i := 15) rfl
    obtain ⟨BK_NoProp, BK0_NoProp⟩ := D_NoProp
    refine ⟨_, (pss_cons (ps_if (pt_cmpR op_eq (pv 0) pe_int (nomark _))
      (pss_one (ps_raise rfl (takes_of rfl rfl rfl rfl) (pmk_err rfl (pe_errP M_BadNumber F_BadNumber hr1 (by rfl) (A.e (i := 0) rfl).g BP_BadNumber (pa_cons (pv 1) pa_nil))))) pss_nil)
      (pss_cons (ps_if (pt_cmpR op_eq (pv 0) pe_int (nomark _))
      (pss_one (ps_raise rfl (takes_of rfl rfl rfl rfl) (pmk_err rfl (pe_errP M_BadRule F_BadRule hr1 (by rfl) (A.e (i := 1) rfl).g BP_BadRule (pa_cons (pv 1) pa_nil))))) pss_nil)
      (pss_cons (ps_if (pt_cmpR op_eq (pv 0) pe_int (nomark _))
      (pss_one (ps_raise rfl (takes_of rfl rfl rfl rfl) (pmk_err rfl (pe_errP M_BadMode F_BadMode hr1 (by rfl) (A.e (i := 2) rfl).g BP_BadMode (pa_cons (pv 1) pa_nil))))) pss_nil)
      (pss_cons (ps_if (pt_cmpR op_eq (pv 0) pe_int (nomark _))
      (pss_one (ps_raise rfl (takes_of rfl rfl rfl rfl) (pmk_err rfl (pe_errP M_BadPoint F_BadPoint hr1 (by rfl) (A.e (i := 3) rfl).g BP_BadPoint (pa_cons (pv 1) pa_nil))))) pss_nil)
      (pss_cons (ps_if (pt_cmpR op_eq (pv 0) pe_int (nomark _))
      (pss_one (ps_raise rfl (takes_of rfl rfl rfl rfl) (pmk_err rfl (pe_errP M_BadNet F_BadNet hr1 (by rfl) (A.e (i := 4) rfl).g BP_BadNet (pa_cons (pv 1) (pa_cons (pv 2) pa_nil)))))) pss_nil)
      (pss_cons (ps_if (pt_cmpR op_eq (pv 0) pe_int (nomark _))
      (pss_one (ps_raise rfl (takes_of rfl rfl rfl rfl) (pmk_err rfl (pe_err0 M_BadLoft F_BadLoft hr1 (by rfl) (A.e (i := 5) rfl).g BP_BadLoft)))) pss_nil)
      (pss_cons (ps_if (pt_cmpR op_eq (pv 0) pe_int (nomark _))
      (pss_one (ps_raise rfl (takes_of rfl rfl rfl rfl) (pmk_err rfl (pe_errP M_NotClosed F_NotClosed hr1 (by rfl) (A.e (i := 6) rfl).g BP_NotClosed (pa_cons (pv 1) pa_nil))))) pss_nil)
      (pss_cons (ps_if (pt_cmpR op_eq (pv 0) pe_int (nomark _))
      (pss_one (ps_raise rfl (takes_of rfl rfl rfl rfl) (pmk_err rfl (pe_errP M_NotTwo F_NotTwo hr1 (by rfl) (A.e (i := 7) rfl).g BP_NotTwo (pa_cons (pv 1) pa_nil))))) pss_nil)
      (pss_cons (ps_if (pt_cmpR op_eq (pv 0) pe_int (nomark _))
      (pss_one (ps_raise rfl (takes_of rfl rfl rfl rfl) (pmk_err rfl (pe_errP M_Twisted F_Twisted hr1 (by rfl) (A.e (i := 8) rfl).g BP_Twisted (pa_cons (pv 1) pa_nil))))) pss_nil)
      (pss_cons (ps_if (pt_cmpR op_eq (pv 0) pe_int (nomark _))
      (pss_one (ps_raise rfl (takes_of rfl rfl rfl rfl) (pmk_err rfl (pe_err0 M_Singular F_Singular hr1 (by rfl) (A.e (i := 9) rfl).g BP_Singular)))) pss_nil)
      (pss_cons (ps_if (pt_cmpR op_eq (pv 0) pe_int (nomark _))
      (pss_one (ps_raise rfl (takes_of rfl rfl rfl rfl) (pmk_err rfl (pe_err0 M_BadHeights F_BadHeights hr1 (by rfl) (A.e (i := 10) rfl).g BP_BadHeights)))) pss_nil)
      (pss_cons (ps_if (pt_cmpR op_eq (pv 0) pe_int (nomark _))
      (pss_one (ps_raise rfl (takes_of rfl rfl rfl rfl) (pmk_err rfl (pe_errP M_BadSetup F_BadSetup hr1 (by rfl) (A.e (i := 11) rfl).g BP_BadSetup (pa_cons (pv 1) pa_nil))))) pss_nil)
      (pss_cons (ps_if (pt_cmpR op_eq (pv 0) pe_int (nomark _))
      (pss_one (ps_raise rfl (takes_of rfl rfl rfl rfl) (pmk_err rfl (pe_errP M_BadLayers F_BadLayers hr1 (by rfl) (A.e (i := 12) rfl).g BP_BadLayers (pa_cons (pv 1) pa_nil))))) pss_nil)
      (pss_cons (ps_if (pt_cmpR op_eq (pv 0) pe_int (nomark _))
      (pss_one (ps_raise rfl (takes_of rfl rfl rfl rfl) (pmk_err rfl (pe_errP M_NoPoint F_NoPoint hr1 (by rfl) (A.e (i := 13) rfl).g BP_NoPoint (pa_cons (pv 1) (pa_cons (pv 2) pa_nil)))))) pss_nil)
      (pss_cons (ps_if (pt_cmpR op_eq (pv 0) pe_int (nomark _))
      (pss_one (ps_raise rfl (takes_of rfl rfl rfl rfl) (pmk_err rfl (pe_errP M_Laid F_Laid hr1 (by rfl) (A.e (i := 14) rfl).g BP_Laid (pa_cons (pv 1) (pa_cons (pv 2) pa_nil)))))) pss_nil)
      (pss_one (ps_if (pt_cmpR op_eq (pv 0) pe_int (nomark _))
      (pss_one (ps_raise rfl (takes_of rfl rfl rfl rfl) (pmk_err rfl (pe_errP M_NoProp F_NoProp hr1 (by rfl) (A.e (i := 15) rfl).g BP_NoProp (pa_cons (pv 1) (pa_cons (pv 2) pa_nil)))))) pss_nil))))))))))))))))), ?_⟩
    by_cases hin : 0 ≤ k ∧ k ≤ 15
    · obtain ⟨hl, hu⟩ := hin
      have hk : k = 0 ∨ k = 1 ∨ k = 2 ∨ k = 3 ∨ k = 4 ∨ k = 5 ∨ k = 6 ∨ k = 7 ∨ k = 8 ∨ k = 9 ∨ k = 10 ∨ k = 11 ∨ k = 12 ∨ k = 13 ∨ k = 14 ∨ k = 15 := by omega
      clear k0 k1 hl hu qn
      rcases hk with rfl | rfl | rfl | rfl | rfl | rfl | rfl | rfl | rfl | rfl | rfl | rfl | rfl | rfl | rfl | rfl
      · refine ⟨_, rfl, rfl, _, rfl, iteT ?_⟩
        refine ⟨_, rfl, rfl, rfl, by decide, fun a ha => ⟨a, _, rfl, rfl, upd_same, fun H3 mk => ⟨rfl, ?_⟩⟩⟩
        exact rdR ha mk (raises_own (A.e (i := 0) rfl).oex.exC (A.e (i := 0) rfl).oex.tyC) (qy (by decide) (by decide))
      · refine ⟨_, rfl, rfl, _, rfl, iteF ?_⟩
        refine ⟨_, rfl, rfl, _, rfl, iteT ?_⟩
        refine ⟨_, rfl, rfl, rfl, by decide, fun a ha => ⟨a, _, rfl, rfl, upd_same, fun H3 mk => ⟨rfl, ?_⟩⟩⟩
        exact rdR ha mk (raises_own (A.e (i := 1) rfl).oex.exC (A.e (i := 1) rfl).oex.tyC) (qy (by decide) (by decide))
      · refine ⟨_, rfl, rfl, _, rfl, iteF ?_⟩
        refine ⟨_, rfl, rfl, _, rfl, iteF ?_⟩
        refine ⟨_, rfl, rfl, _, rfl, iteT ?_⟩
        refine ⟨_, rfl, rfl, rfl, by decide, fun a ha => ⟨a, _, rfl, rfl, upd_same, fun H3 mk => ⟨rfl, ?_⟩⟩⟩
        exact rdR ha mk (raises_own (A.e (i := 2) rfl).oex.exC (A.e (i := 2) rfl).oex.tyC) (qy (by decide) (by decide))
      · refine ⟨_, rfl, rfl, _, rfl, iteF ?_⟩
        refine ⟨_, rfl, rfl, _, rfl, iteF ?_⟩
        refine ⟨_, rfl, rfl, _, rfl, iteF ?_⟩
        refine ⟨_, rfl, rfl, _, rfl, iteT ?_⟩
        refine ⟨_, rfl, rfl, rfl, by decide, fun a ha => ⟨a, _, rfl, rfl, upd_same, fun H3 mk => ⟨rfl, ?_⟩⟩⟩
        exact rdR ha mk (raises_own (A.e (i := 3) rfl).oex.exC (A.e (i := 3) rfl).oex.tyC) (qy (by decide) (by decide))
      · refine ⟨_, rfl, rfl, _, rfl, iteF ?_⟩
        refine ⟨_, rfl, rfl, _, rfl, iteF ?_⟩
        refine ⟨_, rfl, rfl, _, rfl, iteF ?_⟩
        refine ⟨_, rfl, rfl, _, rfl, iteF ?_⟩
        refine ⟨_, rfl, rfl, _, rfl, iteT ?_⟩
        refine ⟨_, rfl, _, rfl, rfl, rfl, by decide, fun a ha => ⟨a, _, rfl, rfl, upd_same, fun H3 mk => ⟨rfl, ?_⟩⟩⟩
        exact rdR ha mk (raises_own (A.e (i := 4) rfl).oex.exC (A.e (i := 4) rfl).oex.tyC) (qy (by decide) (by decide))
      · refine ⟨_, rfl, rfl, _, rfl, iteF ?_⟩
        refine ⟨_, rfl, rfl, _, rfl, iteF ?_⟩
        refine ⟨_, rfl, rfl, _, rfl, iteF ?_⟩
        refine ⟨_, rfl, rfl, _, rfl, iteF ?_⟩
        refine ⟨_, rfl, rfl, _, rfl, iteF ?_⟩
        refine ⟨_, rfl, rfl, _, rfl, iteT ?_⟩
        refine ⟨rfl, rfl, by decide, fun a ha => ⟨a, _, rfl, rfl, upd_same, fun H3 mk => ⟨rfl, ?_⟩⟩⟩
        exact rdR ha mk (raises_own (A.e (i := 5) rfl).oex.exC (A.e (i := 5) rfl).oex.tyC) (qy (by decide) (by decide))
      · refine ⟨_, rfl, rfl, _, rfl, iteF ?_⟩
        refine ⟨_, rfl, rfl, _, rfl, iteF ?_⟩
        refine ⟨_, rfl, rfl, _, rfl, iteF ?_⟩
        refine ⟨_, rfl, rfl, _, rfl, iteF ?_⟩
        refine ⟨_, rfl, rfl, _, rfl, iteF ?_⟩
        refine ⟨_, rfl, rfl, _, rfl, iteF ?_⟩
        refine ⟨_, rfl, rfl, _, rfl, iteT ?_⟩
        refine ⟨_, rfl, rfl, rfl, by decide, fun a ha => ⟨a, _, rfl, rfl, upd_same, fun H3 mk => ⟨rfl, ?_⟩⟩⟩
        exact rdR ha mk (raises_own (A.e (i := 6) rfl).oex.exC (A.e (i := 6) rfl).oex.tyC) (qy (by decide) (by decide))
      · refine ⟨_, rfl, rfl, _, rfl, iteF ?_⟩
        refine ⟨_, rfl, rfl, _, rfl, iteF ?_⟩
        refine ⟨_, rfl, rfl, _, rfl, iteF ?_⟩
        refine ⟨_, rfl, rfl, _, rfl, iteF ?_⟩
        refine ⟨_, rfl, rfl, _, rfl, iteF ?_⟩
        refine ⟨_, rfl, rfl, _, rfl, iteF ?_⟩
        refine ⟨_, rfl, rfl, _, rfl, iteF ?_⟩
        refine ⟨_, rfl, rfl, _, rfl, iteT ?_⟩
        refine ⟨_, rfl, rfl, rfl, by decide, fun a ha => ⟨a, _, rfl, rfl, upd_same, fun H3 mk => ⟨rfl, ?_⟩⟩⟩
        exact rdR ha mk (raises_own (A.e (i := 7) rfl).oex.exC (A.e (i := 7) rfl).oex.tyC) (qy (by decide) (by decide))
      · refine ⟨_, rfl, rfl, _, rfl, iteF ?_⟩
        refine ⟨_, rfl, rfl, _, rfl, iteF ?_⟩
        refine ⟨_, rfl, rfl, _, rfl, iteF ?_⟩
        refine ⟨_, rfl, rfl, _, rfl, iteF ?_⟩
        refine ⟨_, rfl, rfl, _, rfl, iteF ?_⟩
        refine ⟨_, rfl, rfl, _, rfl, iteF ?_⟩
        refine ⟨_, rfl, rfl, _, rfl, iteF ?_⟩
        refine ⟨_, rfl, rfl, _, rfl, iteF ?_⟩
        refine ⟨_, rfl, rfl, _, rfl, iteT ?_⟩
        refine ⟨_, rfl, rfl, rfl, by decide, fun a ha => ⟨a, _, rfl, rfl, upd_same, fun H3 mk => ⟨rfl, ?_⟩⟩⟩
        exact rdR ha mk (raises_own (A.e (i := 8) rfl).oex.exC (A.e (i := 8) rfl).oex.tyC) (qy (by decide) (by decide))
      · refine ⟨_, rfl, rfl, _, rfl, iteF ?_⟩
        refine ⟨_, rfl, rfl, _, rfl, iteF ?_⟩
        refine ⟨_, rfl, rfl, _, rfl, iteF ?_⟩
        refine ⟨_, rfl, rfl, _, rfl, iteF ?_⟩
        refine ⟨_, rfl, rfl, _, rfl, iteF ?_⟩
        refine ⟨_, rfl, rfl, _, rfl, iteF ?_⟩
        refine ⟨_, rfl, rfl, _, rfl, iteF ?_⟩
        refine ⟨_, rfl, rfl, _, rfl, iteF ?_⟩
        refine ⟨_, rfl, rfl, _, rfl, iteF ?_⟩
        refine ⟨_, rfl, rfl, _, rfl, iteT ?_⟩
        refine ⟨rfl, rfl, by decide, fun a ha => ⟨a, _, rfl, rfl, upd_same, fun H3 mk => ⟨rfl, ?_⟩⟩⟩
        exact rdR ha mk (raises_own (A.e (i := 9) rfl).oex.exC (A.e (i := 9) rfl).oex.tyC) (qy (by decide) (by decide))
      · refine ⟨_, rfl, rfl, _, rfl, iteF ?_⟩
        refine ⟨_, rfl, rfl, _, rfl, iteF ?_⟩
        refine ⟨_, rfl, rfl, _, rfl, iteF ?_⟩
        refine ⟨_, rfl, rfl, _, rfl, iteF ?_⟩
        refine ⟨_, rfl, rfl, _, rfl, iteF ?_⟩
        refine ⟨_, rfl, rfl, _, rfl, iteF ?_⟩
        refine ⟨_, rfl, rfl, _, rfl, iteF ?_⟩
        refine ⟨_, rfl, rfl, _, rfl, iteF ?_⟩
        refine ⟨_, rfl, rfl, _, rfl, iteF ?_⟩
        refine ⟨_, rfl, rfl, _, rfl, iteF ?_⟩
        refine ⟨_, rfl, rfl, _, rfl, iteT ?_⟩
        refine ⟨rfl, rfl, by decide, fun a ha => ⟨a, _, rfl, rfl, upd_same, fun H3 mk => ⟨rfl, ?_⟩⟩⟩
        exact rdR ha mk (raises_own (A.e (i := 10) rfl).oex.exC (A.e (i := 10) rfl).oex.tyC) (qy (by decide) (by decide))
      · refine ⟨_, rfl, rfl, _, rfl, iteF ?_⟩
        refine ⟨_, rfl, rfl, _, rfl, iteF ?_⟩
        refine ⟨_, rfl, rfl, _, rfl, iteF ?_⟩
        refine ⟨_, rfl, rfl, _, rfl, iteF ?_⟩
        refine ⟨_, rfl, rfl, _, rfl, iteF ?_⟩
        refine ⟨_, rfl, rfl, _, rfl, iteF ?_⟩
        refine ⟨_, rfl, rfl, _, rfl, iteF ?_⟩
        refine ⟨_, rfl, rfl, _, rfl, iteF ?_⟩
        refine ⟨_, rfl, rfl, _, rfl, iteF ?_⟩
        refine ⟨_, rfl, rfl, _, rfl, iteF ?_⟩
        refine ⟨_, rfl, rfl, _, rfl, iteF ?_⟩
        refine ⟨_, rfl, rfl, _, rfl, iteT ?_⟩
        refine ⟨_, rfl, rfl, rfl, by decide, fun a ha => ⟨a, _, rfl, rfl, upd_same, fun H3 mk => ⟨rfl, ?_⟩⟩⟩
        exact rdR ha mk (raises_own (A.e (i := 11) rfl).oex.exC (A.e (i := 11) rfl).oex.tyC) (qy (by decide) (by decide))
      · refine ⟨_, rfl, rfl, _, rfl, iteF ?_⟩
        refine ⟨_, rfl, rfl, _, rfl, iteF ?_⟩
        refine ⟨_, rfl, rfl, _, rfl, iteF ?_⟩
        refine ⟨_, rfl, rfl, _, rfl, iteF ?_⟩
        refine ⟨_, rfl, rfl, _, rfl, iteF ?_⟩
        refine ⟨_, rfl, rfl, _, rfl, iteF ?_⟩
        refine ⟨_, rfl, rfl, _, rfl, iteF ?_⟩
        refine ⟨_, rfl, rfl, _, rfl, iteF ?_⟩
        refine ⟨_, rfl, rfl, _, rfl, iteF ?_⟩
        refine ⟨_, rfl, rfl, _, rfl, iteF ?_⟩
        refine ⟨_, rfl, rfl, _, rfl, iteF ?_⟩
        refine ⟨_, rfl, rfl, _, rfl, iteF ?_⟩
        refine ⟨_, rfl, rfl, _, rfl, iteT ?_⟩
        refine ⟨_, rfl, rfl, rfl, by decide, fun a ha => ⟨a, _, rfl, rfl, upd_same, fun H3 mk => ⟨rfl, ?_⟩⟩⟩
        exact rdR ha mk (raises_own (A.e (i := 12) rfl).oex.exC (A.e (i := 12) rfl).oex.tyC) (qy (by decide) (by decide))
      · refine ⟨_, rfl, rfl, _, rfl, iteF ?_⟩
        refine ⟨_, rfl, rfl, _, rfl, iteF ?_⟩
        refine ⟨_, rfl, rfl, _, rfl, iteF ?_⟩
        refine ⟨_, rfl, rfl, _, rfl, iteF ?_⟩
        refine ⟨_, rfl, rfl, _, rfl, iteF ?_⟩
        refine ⟨_, rfl, rfl, _, rfl, iteF ?_⟩
        refine ⟨_, rfl, rfl, _, rfl, iteF ?_⟩
        refine ⟨_, rfl, rfl, _, rfl, iteF ?_⟩
        refine ⟨_, rfl, rfl, _, rfl, iteF ?_⟩
        refine ⟨_, rfl, rfl, _, rfl, iteF ?_⟩
        refine ⟨_, rfl, rfl, _, rfl, iteF ?_⟩
        refine ⟨_, rfl, rfl, _, rfl, iteF ?_⟩
        refine ⟨_, rfl, rfl, _, rfl, iteF ?_⟩
        refine ⟨_, rfl, rfl, _, rfl, iteT ?_⟩
        refine ⟨_, rfl, _, rfl, rfl, rfl, by decide, fun a ha => ⟨a, _, rfl, rfl, upd_same, fun H3 mk => ⟨rfl, ?_⟩⟩⟩
        exact rdR ha mk (raises_own (A.e (i := 13) rfl).oex.exC (A.e (i := 13) rfl).oex.tyC) (qy (by decide) (by decide))
      · refine ⟨_, rfl, rfl, _, rfl, iteF ?_⟩
        refine ⟨_, rfl, rfl, _, rfl, iteF ?_⟩
        refine ⟨_, rfl, rfl, _, rfl, iteF ?_⟩
        refine ⟨_, rfl, rfl, _, rfl, iteF ?_⟩
        refine ⟨_, rfl, rfl, _, rfl, iteF ?_⟩
        refine ⟨_, rfl, rfl, _, rfl, iteF ?_⟩
        refine ⟨_, rfl, rfl, _, rfl, iteF ?_⟩
        refine ⟨_, rfl, rfl, _, rfl, iteF ?_⟩
        refine ⟨_, rfl, rfl, _, rfl, iteF ?_⟩
        refine ⟨_, rfl, rfl, _, rfl, iteF ?_⟩
        refine ⟨_, rfl, rfl, _, rfl, iteF ?_⟩
        refine ⟨_, rfl, rfl, _, rfl, iteF ?_⟩
        refine ⟨_, rfl, rfl, _, rfl, iteF ?_⟩
        refine ⟨_, rfl, rfl, _, rfl, iteF ?_⟩
        refine ⟨_, rfl, rfl, _, rfl, iteT ?_⟩
        refine ⟨_, rfl, _, rfl, rfl, rfl, by decide, fun a ha => ⟨a, _, rfl, rfl, upd_same, fun H3 mk => ⟨rfl, ?_⟩⟩⟩
        exact rdR ha mk (raises_own (A.e (i := 14) rfl).oex.exC (A.e (i := 14) rfl).oex.tyC) (qy (by decide) (by decide))
      · refine ⟨_, rfl, rfl, _, rfl, iteF ?_⟩
        refine ⟨_, rfl, rfl, _, rfl, iteF ?_⟩
        refine ⟨_, rfl, rfl, _, rfl, iteF ?_⟩
        refine ⟨_, rfl, rfl, _, rfl, iteF ?_⟩
        refine ⟨_, rfl, rfl, _, rfl, iteF ?_⟩
        refine ⟨_, rfl, rfl, _, rfl, iteF ?_⟩
        refine ⟨_, rfl, rfl, _, rfl, iteF ?_⟩
        refine ⟨_, rfl, rfl, _, rfl, iteF ?_⟩
        refine ⟨_, rfl, rfl, _, rfl, iteF ?_⟩
        refine ⟨_, rfl, rfl, _, rfl, iteF ?_⟩
        refine ⟨_, rfl, rfl, _, rfl, iteF ?_⟩
        refine ⟨_, rfl, rfl, _, rfl, iteF ?_⟩
        refine ⟨_, rfl, rfl, _, rfl, iteF ?_⟩
        refine ⟨_, rfl, rfl, _, rfl, iteF ?_⟩
        refine ⟨_, rfl, rfl, _, rfl, iteF ?_⟩
        refine ⟨_, rfl, rfl, _, rfl, iteT ?_⟩
        refine ⟨_, rfl, _, rfl, rfl, rfl, by decide, fun a ha => ⟨a, _, rfl, rfl, upd_same, fun H3 mk => ⟨rfl, ?_⟩⟩⟩
        exact rdR ha mk (raises_own (A.e (i := 15) rfl).oex.exC (A.e (i := 15) rfl).oex.tyC) (qy (by decide) (by decide))
    · have qn := qn hin
      clear qy
      refine ⟨_, rfl, rfl, _, rfl, ?_⟩
      rw [decide_eq_false (show ¬ V.int k = V.int 0 from fun z => by have := V.int.inj z; omega)]
      refine iteF ?_
      refine ⟨_, rfl, rfl, _, rfl, ?_⟩
      rw [decide_eq_false (show ¬ V.int k = V.int 1 from fun z => by have := V.int.inj z; omega)]
      refine iteF ?_
      refine ⟨_, rfl, rfl, _, rfl, ?_⟩
      rw [decide_eq_false (show ¬ V.int k = V.int 2 from fun z => by have := V.int.inj z; omega)]
      refine iteF ?_
      refine ⟨_, rfl, rfl, _, rfl, ?_⟩
      rw [decide_eq_false (show ¬ V.int k = V.int 3 from fun z => by have := V.int.inj z; omega)]
      refine iteF ?_
      refine ⟨_, rfl, rfl, _, rfl, ?_⟩
      rw [decide_eq_false (show ¬ V.int k = V.int 4 from fun z => by have := V.int.inj z; omega)]
      refine iteF ?_
      refine ⟨_, rfl, rfl, _, rfl, ?_⟩
      rw [decide_eq_false (show ¬ V.int k = V.int 5 from fun z => by have := V.int.inj z; omega)]
      refine iteF ?_
      refine ⟨_, rfl, rfl, _, rfl, ?_⟩
      rw [decide_eq_false (show ¬ V.int k = V.int 6 from fun z => by have := V.int.inj z; omega)]
      refine iteF ?_
      refine ⟨_, rfl, rfl, _, rfl, ?_⟩
      rw [decide_eq_false (show ¬ V.int k = V.int 7 from fun z => by have := V.int.inj z; omega)]
      refine iteF ?_
      refine ⟨_, rfl, rfl, _, rfl, ?_⟩
      rw [decide_eq_false (show ¬ V.int k = V.int 8 from fun z => by have := V.int.inj z; omega)]
      refine iteF ?_
      refine ⟨_, rfl, rfl, _, rfl, ?_⟩
      rw [decide_eq_false (show ¬ V.int k = V.int 9 from fun z => by have := V.int.inj z; omega)]
      refine iteF ?_
      refine ⟨_, rfl, rfl, _, rfl, ?_⟩
      rw [decide_eq_false (show ¬ V.int k = V.int 10 from fun z => by have := V.int.inj z; omega)]
      refine iteF ?_
      refine ⟨_, rfl, rfl, _, rfl, ?_⟩
      rw [decide_eq_false (show ¬ V.int k = V.int 11 from fun z => by have := V.int.inj z; omega)]
      refine iteF ?_
      refine ⟨_, rfl, rfl, _, rfl, ?_⟩
      rw [decide_eq_false (show ¬ V.int k = V.int 12 from fun z => by have := V.int.inj z; omega)]
      refine iteF ?_
      refine ⟨_, rfl, rfl, _, rfl, ?_⟩
      rw [decide_eq_false (show ¬ V.int k = V.int 13 from fun z => by have := V.int.inj z; omega)]
      refine iteF ?_
      refine ⟨_, rfl, rfl, _, rfl, ?_⟩
      rw [decide_eq_false (show ¬ V.int k = V.int 14 from fun z => by have := V.int.inj z; omega)]
      refine iteF ?_
      refine ⟨_, rfl, rfl, _, rfl, ?_⟩
      rw [decide_eq_false (show ¬ V.int k = V.int 15 from fun z => by have := V.int.inj z; omega)]
      refine iteF ?_
      exact qn
theorem ok_rh (F : Fun K "_law_raise_high" "_law_raise_high" s_rh f fd) (A : All P w K mg base R L) : FnOk P w K mg base (L2.CX P w) 3 f fd ["_law_at", "_law_one", "_law_two"] (spRaise L 16 30) := by
  refine F.okX sc_rh (fun vs H Q E h => ?_) (fun cdv A' outer s H vs Q E hr h => ?_)
  · obtain ⟨k, x, y, rfl, _⟩ := h
    rfl
  · obtain ⟨k, x, y, rfl, k0, k1, qy, qn⟩ := h
    have hr1 := hr.mono (show 2 ≤ 2 by decide)
    obtain ⟨f_BadFilling, fd_BadFilling, M_BadFilling, F_BadFilling, BP_BadFilling, D_BadFilling⟩ := A.m (i := 16) rfl
    have BK0_BadFilling := D_BadFilling
    obtain ⟨f_BadChooser, fd_BadChooser, M_BadChooser, F_BadChooser, BP_BadChooser, D_BadChooser⟩ := A.m (i := 17) rfl
    have BK0_BadChooser := D_BadChooser
    obtain ⟨f_UnknownJob, fd_UnknownJob, M_UnknownJob, F_UnknownJob, BP_UnknownJob, D_UnknownJob⟩ := A.m (i := 18) rfl
    have BK0_UnknownJob := D_UnknownJob
    obtain ⟨f_NotReady, fd_NotReady, M_NotReady, F_NotReady, BP_NotReady, D_NotReady⟩ := A.m (i := 19) rfl
    have BK0_NotReady := D_NotReady
    obtain ⟨f_AllDone, fd_AllDone, M_AllDone, F_AllDone, BP_AllDone, D_AllDone⟩ := A.m (i := 20) rfl
    obtain ⟨f_BadIndex, fd_BadIndex, M_BadIndex, F_BadIndex, BP_BadIndex, D_BadIndex⟩ := A.m (i := 21) rfl
    have BK0_BadIndex := D_BadIndex
    obtain ⟨f_NotOrder, fd_NotOrder, M_NotOrder, F_NotOrder, BP_NotOrder, D_NotOrder⟩ := A.m (i := 22) rfl
    obtain ⟨f_Ring, fd_Ring, M_Ring, F_Ring, BP_Ring, D_Ring⟩ := A.m (i := 23) rfl
    have BK0_Ring := D_Ring
    obtain ⟨f_BadRow, fd_BadRow, M_BadRow, F_BadRow, BP_BadRow, D_BadRow⟩ := A.m (i := 24) rfl
    have BK0_BadRow := D_BadRow
    obtain ⟨f_NoLayer, fd_NoLayer, M_NoLayer, F_NoLayer, BP_NoLayer, D_NoLayer⟩ := A.m (i := 25) rfl
    have BK0_NoLayer := D_NoLayer
    obtain ⟨f_Touch, fd_Touch, M_Touch, F_Touch, BP_Touch, D_Touch⟩ := A.m (i := 26) rfl
    obtain ⟨BK_Touch, BK0_Touch⟩ := D_Touch
    obtain ⟨f_Hangs, fd_Hangs, M_Hangs, F_Hangs, BP_Hangs, D_Hangs⟩ := A.m (i := 27) rfl
    have BK0_Hangs := D_Hangs
    obtain ⟨f_Outside, fd_Outside, M_Outside, F_Outside, BP_Outside, D_Outside⟩ := A.m (i := 28) rfl
    have BK0_Outside := D_Outside
    obtain ⟨f_Loses, fd_Loses, M_Loses, F_Loses, BP_Loses, D_Loses⟩ := A.m (i := 29) rfl
    have BK0_Loses := D_Loses
    obtain ⟨f_BadText, fd_BadText, M_BadText, F_BadText, BP_BadText, D_BadText⟩ := A.m (i := 30) rfl
    obtain ⟨BK_BadText, BK0_BadText⟩ := D_BadText
    refine ⟨_, (pss_cons (ps_if (pt_cmpR op_eq (pv 0) pe_int (nomark _))
      (pss_one (ps_raise rfl (takes_of rfl rfl rfl rfl) (pmk_err rfl (pe_errP M_BadFilling F_BadFilling hr1 (by rfl) (A.e (i := 16) rfl).g BP_BadFilling (pa_cons (pv 1) pa_nil))))) pss_nil)
      (pss_cons (ps_if (pt_cmpR op_eq (pv 0) pe_int (nomark _))
      (pss_one (ps_raise rfl (takes_of rfl rfl rfl rfl) (pmk_err rfl (pe_errP M_BadChooser F_BadChooser hr1 (by rfl) (A.e (i := 17) rfl).g BP_BadChooser (pa_cons (pv 1) pa_nil))))) pss_nil)
      (pss_cons (ps_if (pt_cmpR op_eq (pv 0) pe_int (nomark _))
      (pss_one (ps_raise rfl (takes_of rfl rfl rfl rfl) (pmk_err rfl (pe_errP M_UnknownJob F_UnknownJob hr1 (by rfl) (A.e (i := 18) rfl).g BP_UnknownJob (pa_cons (pv 1) pa_nil))))) pss_nil)
      (pss_cons (ps_if (pt_cmpR op_eq (pv 0) pe_int (nomark _))
      (pss_one (ps_raise rfl (takes_of rfl rfl rfl rfl) (pmk_err rfl (pe_errP M_NotReady F_NotReady hr1 (by rfl) (A.e (i := 19) rfl).g BP_NotReady (pa_cons (pv 1) pa_nil))))) pss_nil)
      (pss_cons (ps_if (pt_cmpR op_eq (pv 0) pe_int (nomark _))
      (pss_one (ps_raise rfl (takes_of rfl rfl rfl rfl) (pmk_err rfl (pe_err0 M_AllDone F_AllDone hr1 (by rfl) (A.e (i := 20) rfl).g BP_AllDone)))) pss_nil)
      (pss_cons (ps_if (pt_cmpR op_eq (pv 0) pe_int (nomark _))
      (pss_one (ps_raise rfl (takes_of rfl rfl rfl rfl) (pmk_err rfl (pe_errP M_BadIndex F_BadIndex hr1 (by rfl) (A.e (i := 21) rfl).g BP_BadIndex (pa_cons (pv 1) pa_nil))))) pss_nil)
      (pss_cons (ps_if (pt_cmpR op_eq (pv 0) pe_int (nomark _))
      (pss_one (ps_raise rfl (takes_of rfl rfl rfl rfl) (pmk_err rfl (pe_err0 M_NotOrder F_NotOrder hr1 (by rfl) (A.e (i := 22) rfl).g BP_NotOrder)))) pss_nil)
      (pss_cons (ps_if (pt_cmpR op_eq (pv 0) pe_int (nomark _))
      (pss_one (ps_raise rfl (takes_of rfl rfl rfl rfl) (pmk_err rfl (pe_errP M_Ring F_Ring hr1 (by rfl) (A.e (i := 23) rfl).g BP_Ring (pa_cons (pv 1) pa_nil))))) pss_nil)
      (pss_cons (ps_if (pt_cmpR op_eq (pv 0) pe_int (nomark _))
      (pss_one (ps_raise rfl (takes_of rfl rfl rfl rfl) (pmk_err rfl (pe_errP M_BadRow F_BadRow hr1 (by rfl) (A.e (i := 24) rfl).g BP_BadRow (pa_cons (pv 1) pa_nil))))) pss_nil)
      (pss_cons (ps_if (pt_cmpR op_eq (pv 0) pe_int (nomark _))
      (pss_one (ps_raise rfl (takes_of rfl rfl rfl rfl) (pmk_err rfl (pe_errP M_NoLayer F_NoLayer hr1 (by rfl) (A.e (i := 25) rfl).g BP_NoLayer (pa_cons (pv 1) pa_nil))))) pss_nil)
      (pss_cons (ps_if (pt_cmpR op_eq (pv 0) pe_int (nomark _))
      (pss_one (ps_raise rfl (takes_of rfl rfl rfl rfl) (pmk_err rfl (pe_errP M_Touch F_Touch hr1 (by rfl) (A.e (i := 26) rfl).g BP_Touch (pa_cons (pv 1) (pa_cons (pv 2) pa_nil)))))) pss_nil)
      (pss_cons (ps_if (pt_cmpR op_eq (pv 0) pe_int (nomark _))
      (pss_one (ps_raise rfl (takes_of rfl rfl rfl rfl) (pmk_err rfl (pe_errP M_Hangs F_Hangs hr1 (by rfl) (A.e (i := 27) rfl).g BP_Hangs (pa_cons (pv 1) pa_nil))))) pss_nil)
      (pss_cons (ps_if (pt_cmpR op_eq (pv 0) pe_int (nomark _))
      (pss_one (ps_raise rfl (takes_of rfl rfl rfl rfl) (pmk_err rfl (pe_errP M_Outside F_Outside hr1 (by rfl) (A.e (i := 28) rfl).g BP_Outside (pa_cons (pv 1) pa_nil))))) pss_nil)
      (pss_cons (ps_if (pt_cmpR op_eq (pv 0) pe_int (nomark _))
      (pss_one (ps_raise rfl (takes_of rfl rfl rfl rfl) (pmk_err rfl (pe_errP M_Loses F_Loses hr1 (by rfl) (A.e (i := 29) rfl).g BP_Loses (pa_cons (pv 1) pa_nil))))) pss_nil)
      (pss_one (ps_if (pt_cmpR op_eq (pv 0) pe_int (nomark _))
      (pss_one (ps_raise rfl (takes_of rfl rfl rfl rfl) (pmk_err rfl (pe_errP M_BadText F_BadText hr1 (by rfl) (A.e (i := 30) rfl).g BP_BadText (pa_cons (pv 1) (pa_cons (pv 2) pa_nil)))))) pss_nil)))))))))))))))), ?_⟩
    by_cases hin : 16 ≤ k ∧ k ≤ 30
    · obtain ⟨hl, hu⟩ := hin
      have hk : k = 16 ∨ k = 17 ∨ k = 18 ∨ k = 19 ∨ k = 20 ∨ k = 21 ∨ k = 22 ∨ k = 23 ∨ k = 24 ∨ k = 25 ∨ k = 26 ∨ k = 27 ∨ k = 28 ∨ k = 29 ∨ k = 30 := by omega
      clear k0 k1 hl hu qn
      rcases hk with rfl | rfl | rfl | rfl | rfl | rfl | rfl | rfl | rfl | rfl | rfl | rfl | rfl | rfl | rfl
      · refine ⟨_, rfl, rfl, _, rfl, iteT ?_⟩
        refine ⟨_, rfl, rfl, rfl, by decide, fun a ha => ⟨a, _, rfl, rfl, upd_same, fun H3 mk => ⟨rfl, ?_⟩⟩⟩
        exact rdR ha mk (raises_own (A.e (i := 16) rfl).oex.exC (A.e (i := 16) rfl).oex.tyC) (qy (by decide) (by decide))
      · refine ⟨_, rfl, rfl, _, rfl, iteF ?_⟩
        refine ⟨_, rfl, rfl, _, rfl, iteT ?_⟩
        refine ⟨_, rfl, rfl, rfl, by decide, fun a ha => ⟨a, _, rfl, rfl, upd_same, fun H3 mk => ⟨rfl, ?_⟩⟩⟩
        exact rdR ha mk (raises_own (A.e (i := 17) rfl).oex.exC (A.e (i := 17) rfl).oex.tyC) (qy (by decide) (by decide))
      · refine ⟨_, rfl, rfl, _, rfl, iteF ?_⟩
        refine ⟨_, rfl, rfl, _, rfl, iteF ?_⟩
        refine ⟨_, rfl, rfl, _, rfl, iteT ?_⟩
        refine ⟨_, rfl, rfl, rfl, by decide, fun a ha => ⟨a, _, rfl, rfl, upd_same, fun H3 mk => ⟨rfl, ?_⟩⟩⟩
        exact rdR ha mk (raises_own (A.e (i := 18) rfl).oex.exC (A.e (i := 18) rfl).oex.tyC) (qy (by decide) (by decide))
      · refine ⟨_, rfl, rfl, _, rfl, iteF ?_⟩
        refine ⟨_, rfl, rfl, _, rfl, iteF ?_⟩
        refine ⟨_, rfl, rfl, _, rfl, iteF ?_⟩
        refine ⟨_, rfl, rfl, _, rfl, iteT ?_⟩
        refine ⟨_, rfl, rfl, rfl, by decide, fun a ha => ⟨a, _, rfl, rfl, upd_same, fun H3 mk => ⟨rfl, ?_⟩⟩⟩
        exact rdR ha mk (raises_own (A.e (i := 19) rfl).oex.exC (A.e (i := 19) rfl).oex.tyC) (qy (by decide) (by decide))
      · refine ⟨_, rfl, rfl, _, rfl, iteF ?_⟩
        refine ⟨_, rfl, rfl, _, rfl, iteF ?_⟩
        refine ⟨_, rfl, rfl, _, rfl, iteF ?_⟩
        refine ⟨_, rfl, rfl, _, rfl, iteF ?_⟩
        refine ⟨_, rfl, rfl, _, rfl, iteT ?_⟩
        refine ⟨rfl, rfl, by decide, fun a ha => ⟨a, _, rfl, rfl, upd_same, fun H3 mk => ⟨rfl, ?_⟩⟩⟩
        exact rdR ha mk (raises_own (A.e (i := 20) rfl).oex.exC (A.e (i := 20) rfl).oex.tyC) (qy (by decide) (by decide))
      · refine ⟨_, rfl, rfl, _, rfl, iteF ?_⟩
        refine ⟨_, rfl, rfl, _, rfl, iteF ?_⟩
        refine ⟨_, rfl, rfl, _, rfl, iteF ?_⟩
        refine ⟨_, rfl, rfl, _, rfl, iteF ?_⟩
        refine ⟨_, rfl, rfl, _, rfl, iteF ?_⟩
        refine ⟨_, rfl, rfl, _, rfl, iteT ?_⟩
        refine ⟨_, rfl, rfl, rfl, by decide, fun a ha => ⟨a, _, rfl, rfl, upd_same, fun H3 mk => ⟨rfl, ?_⟩⟩⟩
        exact rdR ha mk (raises_own (A.e (i := 21) rfl).oex.exC (A.e (i := 21) rfl).oex.tyC) (qy (by decide) (by decide))
      · refine ⟨_, rfl, rfl, _, rfl, iteF ?_⟩
        refine ⟨_, rfl, rfl, _, rfl, iteF ?_⟩
        refine ⟨_, rfl, rfl, _, rfl, iteF ?_⟩
        refine ⟨_, rfl, rfl, _, rfl, iteF ?_⟩
        refine ⟨_, rfl, rfl, _, rfl, iteF ?_⟩
        refine ⟨_, rfl, rfl, _, rfl, iteF ?_⟩
        refine ⟨_, rfl, rfl, _, rfl, iteT ?_⟩
        refine ⟨rfl, rfl, by decide, fun a ha => ⟨a, _, rfl, rfl, upd_same, fun H3 mk => ⟨rfl, ?_⟩⟩⟩
        exact rdR ha mk (raises_own (A.e (i := 22) rfl).oex.exC (A.e (i := 22) rfl).oex.tyC) (qy (by decide) (by decide))
      · refine ⟨_, rfl, rfl, _, rfl, iteF ?_⟩
        refine ⟨_, rfl, rfl, _, rfl, iteF ?_⟩
        refine ⟨_, rfl, rfl, _, rfl, iteF ?_⟩
        refine ⟨_, rfl, rfl, _, rfl, iteF ?_⟩
        refine ⟨_, rfl, rfl, _, rfl, iteF ?_⟩
        refine ⟨_, rfl, rfl, _, rfl, iteF ?_⟩
        refine ⟨_, rfl, rfl, _, rfl, iteF ?_⟩
        refine ⟨_, rfl, rfl, _, rfl, iteT ?_⟩
        refine ⟨_, rfl, rfl, rfl, by decide, fun a ha => ⟨a, _, rfl, rfl, upd_same, fun H3 mk => ⟨rfl, ?_⟩⟩⟩
        exact rdR ha mk (raises_own (A.e (i := 23) rfl).oex.exC (A.e (i := 23) rfl).oex.tyC) (qy (by decide) (by decide))
      · refine ⟨_, rfl, rfl, _, rfl, iteF ?_⟩
        refine ⟨_, rfl, rfl, _, rfl, iteF ?_⟩
        refine ⟨_, rfl, rfl, _, rfl, iteF ?_⟩
        refine ⟨_, rfl, rfl, _, rfl, iteF ?_⟩
        refine ⟨_, rfl, rfl, _, rfl, iteF ?_⟩
        refine ⟨_, rfl, rfl, _, rfl, iteF ?_⟩
        refine ⟨_, rfl, rfl, _, rfl, iteF ?_⟩
        refine ⟨_, rfl, rfl, _, rfl, iteF ?_⟩
        refine ⟨_, rfl, rfl, _, rfl, iteT ?_⟩
        refine ⟨_, rfl, rfl, rfl, by decide, fun a ha => ⟨a, _, rfl, rfl, upd_same, fun H3 mk => ⟨rfl, ?_⟩⟩⟩
        exact rdR ha mk (raises_own (A.e (i := 24) rfl).oex.exC (A.e (i := 24) rfl).oex.tyC) (qy (by decide) (by decide))
      · refine ⟨_, rfl, rfl, _, rfl, iteF ?_⟩
        refine ⟨_, rfl, rfl, _, rfl, iteF ?_⟩
        refine ⟨_, rfl, rfl, _, rfl, iteF ?_⟩
        refine ⟨_, rfl, rfl, _, rfl, iteF ?_⟩
        refine ⟨_, rfl, rfl, _, rfl, iteF ?_⟩
        refine ⟨_, rfl, rfl, _, rfl, iteF ?_⟩
        refine ⟨_, rfl, rfl, _, rfl, iteF ?_⟩
        refine ⟨_, rfl, rfl, _, rfl, iteF ?_⟩
        refine ⟨_, rfl, rfl, _, rfl, iteF ?_⟩
        refine ⟨_, rfl, rfl, _, rfl, iteT ?_⟩
        refine ⟨_, rfl, rfl, rfl, by decide, fun a ha => ⟨a, _, rfl, rfl, upd_same, fun H3 mk => ⟨rfl, ?_⟩⟩⟩
        exact rdR ha mk (raises_own (A.e (i := 25) rfl).oex.exC (A.e (i := 25) rfl).oex.tyC) (qy (by decide) (by decide))
      · refine ⟨_, rfl, rfl, _, rfl, iteF ?_⟩
        refine ⟨_, rfl, rfl, _, rfl, iteF ?_⟩
        refine ⟨_, rfl, rfl, _, rfl, iteF ?_⟩
        refine ⟨_, rfl, rfl, _, rfl, iteF ?_⟩
        refine ⟨_, rfl, rfl, _, rfl, iteF ?_⟩
        refine ⟨_, rfl, rfl, _, rfl, iteF ?_⟩
        refine ⟨_, rfl, rfl, _, rfl, iteF ?_⟩
        refine ⟨_, rfl, rfl, _, rfl, iteF ?_⟩
        refine ⟨_, rfl, rfl, _, rfl, iteF ?_⟩
        refine ⟨_, rfl, rfl, _, rfl, iteF ?_⟩
        refine ⟨_, rfl, rfl, _, rfl, iteT ?_⟩
        refine ⟨_, rfl, _, rfl, rfl, rfl, by decide, fun a ha => ⟨a, _, rfl, rfl, upd_same, fun H3 mk => ⟨rfl, ?_⟩⟩⟩
        exact rdR ha mk (raises_own (A.e (i := 26) rfl).oex.exC (A.e (i := 26) rfl).oex.tyC) (qy (by decide) (by decide))
      · refine ⟨_, rfl, rfl, _, rfl, iteF ?_⟩
        refine ⟨_, rfl, rfl, _, rfl, iteF ?_⟩
        refine ⟨_, rfl, rfl, _, rfl, iteF ?_⟩
        refine ⟨_, rfl, rfl, _, rfl, iteF ?_⟩
        refine ⟨_, rfl, rfl, _, rfl, iteF ?_⟩
        refine ⟨_, rfl, rfl, _, rfl, iteF ?_⟩
        refine ⟨_, rfl, rfl, _, rfl, iteF ?_⟩
        refine ⟨_, rfl, rfl, _, rfl, iteF ?_⟩
        refine ⟨_, rfl, rfl, _, rfl, iteF ?_⟩
        refine ⟨_, rfl, rfl, _, rfl, iteF ?_⟩
        refine ⟨_, rfl, rfl, _, rfl, iteF ?_⟩
        refine ⟨_, rfl, rfl, _, rfl, iteT ?_⟩
        refine ⟨_, rfl, rfl, rfl, by decide, fun a ha => ⟨a, _, rfl, rfl, upd_same, fun H3 mk => ⟨rfl, ?_⟩⟩⟩
        exact rdR ha mk (raises_own (A.e (i := 27) rfl).oex.exC (A.e (i := 27) rfl).oex.tyC) (qy (by decide) (by decide))
      · refine ⟨_, rfl, rfl, _, rfl, iteF ?_⟩
        refine ⟨_, rfl, rfl, _, rfl, iteF ?_⟩
        refine ⟨_, rfl, rfl, _, rfl, iteF ?_⟩
        refine ⟨_, rfl, rfl, _, rfl, iteF ?_⟩
        refine ⟨_, rfl, rfl, _, rfl, iteF ?_⟩
        refine ⟨_, rfl, rfl, _, rfl, iteF ?_⟩
        refine ⟨_, rfl, rfl, _, rfl, iteF ?_⟩
        refine ⟨_, rfl, rfl, _, rfl, iteF ?_⟩
        refine ⟨_, rfl, rfl, _, rfl, iteF ?_⟩
        refine ⟨_, rfl, rfl, _, rfl, iteF ?_⟩
        refine ⟨_, rfl, rfl, _, rfl, iteF ?_⟩
        refine ⟨_, rfl, rfl, _, rfl, iteF ?_⟩
        refine ⟨_, rfl, rfl, _, rfl, iteT ?_⟩
        refine ⟨_, rfl, rfl, rfl, by decide, fun a ha => ⟨a, _, rfl, rfl, upd_same, fun H3 mk => ⟨rfl, ?_⟩⟩⟩
        exact rdR ha mk (raises_own (A.e (i := 28) rfl).oex.exC (A.e (i := 28) rfl).oex.tyC) (qy (by decide) (by decide))
      · refine ⟨_, rfl, rfl, _, rfl, iteF ?_⟩
        refine ⟨_, rfl, rfl, _, rfl, iteF ?_⟩
        refine ⟨_, rfl, rfl, _, rfl, iteF ?_⟩
        refine ⟨_, rfl, rfl, _, rfl, iteF ?_⟩
        refine ⟨_, rfl, rfl, _, rfl, iteF ?_⟩
        refine ⟨_, rfl, rfl, _, rfl, iteF ?_⟩
        refine ⟨_, rfl, rfl, _, rfl, iteF ?_⟩
        refine ⟨_, rfl, rfl, _, rfl, iteF ?_⟩
        refine ⟨_, rfl, rfl, _, rfl, iteF ?_⟩
        refine ⟨_, rfl, rfl, _, rfl, iteF ?_⟩
        refine ⟨_, rfl, rfl, _, rfl, iteF ?_⟩
        refine ⟨_, rfl, rfl, _, rfl, iteF ?_⟩
        refine ⟨_, rfl, rfl, _, rfl, iteF ?_⟩
        refine ⟨_, rfl, rfl, _, rfl, iteT ?_⟩
        refine ⟨_, rfl, rfl, rfl, by decide, fun a ha => ⟨a, _, rfl, rfl, upd_same, fun H3 mk => ⟨rfl, ?_⟩⟩⟩
        exact rdR ha mk (raises_own (A.e (i := 29) rfl).oex.exC (A.e (i := 29) rfl).oex.tyC) (qy (by decide) (by decide))
      · refine ⟨_, rfl, rfl, _, rfl, iteF ?_⟩
        refine ⟨_, rfl, rfl, _, rfl, iteF ?_⟩
        refine ⟨_, rfl, rfl, _, rfl, iteF ?_⟩
        refine ⟨_, rfl, rfl, _, rfl, iteF ?_⟩
        refine ⟨_, rfl, rfl, _, rfl, iteF ?_⟩
        refine ⟨_, rfl, rfl, _, rfl, iteF ?_⟩
        refine ⟨_, rfl, rfl, _, rfl, iteF ?_⟩
        refine ⟨_, rfl, rfl, _, rfl, iteF ?_⟩
        refine ⟨_, rfl, rfl, _, rfl, iteF ?_⟩
        refine ⟨_, rfl, rfl, _, rfl, iteF ?_⟩
        refine ⟨_, rfl, rfl, _, rfl, iteF ?_⟩
        refine ⟨_, rfl, rfl, _, rfl, iteF ?_⟩
        refine ⟨_, rfl, rfl, _, rfl, iteF ?_⟩
        refine ⟨_, rfl, rfl, _, rfl, iteF ?_⟩
        refine ⟨_, rfl, rfl, _, rfl, iteT ?_⟩
        refine ⟨_, rfl, _, rfl, rfl, rfl, by decide, fun a ha => ⟨a, _, rfl, rfl, upd_same, fun H3 mk => ⟨rfl, ?_⟩⟩⟩
        exact rdR ha mk (raises_own (A.e (i := 30) rfl).oex.exC (A.e (i := 30) rfl).oex.tyC) (qy (by decide) (by decide))
    · have qn := qn hin
      clear qy
      refine ⟨_, rfl, rfl, _, rfl, ?_⟩
      rw [decide_eq_false (show ¬ V.int k = V.int 16 from fun z => by have := V.int.inj z; omega)]
      refine iteF ?_
      refine ⟨_, rfl, rfl, _, rfl, ?_⟩
      rw [decide_eq_false (show ¬ V.int k = V.int 17 from fun z => by have := V.int.inj z; omega)]
      refine iteF ?_
      refine ⟨_, rfl, rfl, _, rfl, ?_⟩
      rw [decide_eq_false (show ¬ V.int k = V.int 18 from fun z => by have := V.int.inj z; omega)]
      refine iteF ?_
      refine ⟨_, rfl, rfl, _, rfl, ?_⟩
      rw [decide_eq_false (show ¬ V.int k = V.int 19 from fun z => by have := V.int.inj z; omega)]
      refine iteF ?_
      refine ⟨_, rfl, rfl, _, rfl, ?_⟩
      rw [decide_eq_false (show ¬ V.int k = V.int 20 from fun z => by have := V.int.inj z; omega)]
      refine iteF ?_
      refine ⟨_, rfl, rfl, _, rfl, ?_⟩
      rw [decide_eq_false (show ¬ V.int k = V.int 21 from fun z => by have := V.int.inj z; omega)]
      refine iteF ?_
      refine ⟨_, rfl, rfl, _, rfl, ?_⟩
      rw [decide_eq_false (show ¬ V.int k = V.int 22 from fun z => by have := V.int.inj z; omega)]
      refine iteF ?_
      refine ⟨_, rfl, rfl, _, rfl, ?_⟩
      rw [decide_eq_false (show ¬ V.int k = V.int 23 from fun z => by have := V.int.inj z; omega)]
      refine iteF ?_
      refine ⟨_, rfl, rfl, _, rfl, ?_⟩
      rw [decide_eq_false (show ¬ V.int k = V.int 24 from fun z => by have := V.int.inj z; omega)]
      refine iteF ?_
      refine ⟨_, rfl, rfl, _, rfl, ?_⟩
      rw [decide_eq_false (show ¬ V.int k = V.int 25 from fun z => by have := V.int.inj z; omega)]
      refine iteF ?_
      refine ⟨_, rfl, rfl, _, rfl, ?_⟩
      rw [decide_eq_false (show ¬ V.int k = V.int 26 from fun z => by have := V.int.inj z; omega)]
      refine iteF ?_
      refine ⟨_, rfl, rfl, _, rfl, ?_⟩
      rw [decide_eq_false (show ¬ V.int k = V.int 27 from fun z => by have := V.int.inj z; omega)]
      refine iteF ?_
      refine ⟨_, rfl, rfl, _, rfl, ?_⟩
      rw [decide_eq_false (show ¬ V.int k = V.int 28 from fun z => by have := V.int.inj z; omega)]
      refine iteF ?_
      refine ⟨_, rfl, rfl, _, rfl, ?_⟩
      rw [decide_eq_false (show ¬ V.int k = V.int 29 from fun z => by have := V.int.inj z; omega)]
      refine iteF ?_
      refine ⟨_, rfl, rfl, _, rfl, ?_⟩
      rw [decide_eq_false (show ¬ V.int k = V.int 30 from fun z => by have := V.int.inj z; omega)]
      refine iteF ?_
      exact qn

/-- the classes of the error that is caught -/
def spCaught : Sp := fun vs H Q _ => ∃ (k : Int) (x y : V), vs = [.int k, x, y] ∧ 0 ≤ k ∧ k < 31 ∧ ∀ p H', Same H H' → H' p = some (.lst (row k.toNat)) → Q (.ref p) H'
theorem PE.imp {X : Cx} {e : Expr} {t t' : TE} (h : PE X e t) (i : ∀ σ H Q, t' σ H Q → t σ H Q) : PE X e t' := ⟨fun pins s σ H Q I z => h.run pins s σ H Q I (i σ H Q z)⟩
/-- return classes(e), the error that is held at a -/
def tSu (L : List Addr) (i : Nat) (a : Addr) (cls : Value) (d : Option Addr) : TE := fun σ H Q => σ[i]? = some (some (.ref a)) ∧ ∃ k : Nat, k < 31 ∧ cls = .ref (cA L k) ∧ (∀ dx, d = some dx → ∃ fs, H dx = some (exd dx fs)) ∧
  ∀ q H', Same H H' → H' q = some (.lst (row k)) → Q (.ref q) H'
theorem All.caught (A : All P w K mg base R L) {i : Nat} (h : i < 31) : PySem.W.exmOne K (.ref (cA L i)) (.ref R) = some true := by
  obtain ⟨x, ps, e⟩ := tab_at h
  obtain ⟨cd, h1, h2, h3, h4⟩ := (A.e e).cls
  refine PySem.W.exm_ref A.r.sB A.r.dR A.r.tR ?_
  show PySem.W.mroIn K (cA L i) _ = _
  unfold PySem.W.mroIn
  rw [h1, Option.bind_some, h2]
  simp
theorem ok_caught {fl fh fc : Addr} (F : Fun K "_law_caught" "_law_caught" s_caught f fd) (A : All P w K mg base R L) (gl : mg "_law_raise_low" = some (.ref fl)) (kl : PySem.W.keepIn K (.ref fl) = true)
    (gh : mg "_law_raise_high" = some (.ref fh)) (kh : PySem.W.keepIn K (.ref fh) = true) (gc : mg "_law_classes" = some (.ref fc)) (kc : PySem.W.keepIn K (.ref fc) = true)
    (Dl : ∃ fd, FnOk P w K mg base (L2.CX P w) 3 fl fd ["_law_at", "_law_one", "_law_two"] (spRaise L 0 15) ∧ Binds K fd ["_law_at", "_law_one", "_law_two"] []) (Dh : ∃ fd, FnOk P w K mg base (L2.CX P w) 3 fh fd ["_law_at", "_law_one", "_law_two"] (spRaise L 16 30) ∧ Binds K fd ["_law_at", "_law_one", "_law_two"] [])
    (Dc : ∃ fd, FnP P w K mg base 1 fc fd ["_law_error"] (spClassesP L) ∧ Binds K fd ["_law_error"] []) : FnOk P w K mg base CX0 4 f fd ["_law_at", "_law_one", "_law_two"] spCaught := by
  obtain ⟨fdl, Gl_, Bl_⟩ := Dl
  obtain ⟨fdh, Gh_, Bh_⟩ := Dh
  obtain ⟨fdc, Gc_, Bc_⟩ := Dc
  refine F.ok sc_caught (fun vs H Q E h => ?_) (fun cdv A' outer s H vs Q E hr h => ?_)
  · obtain ⟨k, x, y, rfl, _⟩ := h
    rfl
  · obtain ⟨k, x, y, rfl, k0, k1, q⟩ := h
    have hr1 := hr.mono (show 3 ≤ 3 by decide)
    refine ⟨_, pss_cons (ps_try_as (i := 3) (tb := fun W => tSeq (tDrop (tCallS (spRaise L 0 15) (WE W) (tCons (tVar 0) (tCons (tVar 1) (tCons (tVar 2) tNil))))) (tDrop (tCallS (spRaise L 16 30) (WE W) (tCons (tVar 0) (tCons (tVar 1) (tCons (tVar 2) tNil))))))
      (ts := fun a cls d => tRet (tSu L 3 a cls d)) (Wout := fun _ _ _ _ => False) rfl rfl sc_caught.nd rfl rfl ⟨rfl, by decide, Or.inl A.r.g⟩ takes0
      (fun W pn xe tk _ => pss_cons (ps_expr (by exact pe_callS Gl_ hr1 rfl gl kl Bl_ (fun σ => passAt tk σ) (pa_cons (pv 0) (pa_cons (pv 1) (pa_cons (pv 2) pa_nil)))))
        (pss_one (ps_expr (by exact pe_callS Gh_ hr1 rfl gh kh Bh_ (fun σ => passAt tk σ) (pa_cons (pv 0) (pa_cons (pv 1) (pa_cons (pv 2) pa_nil)))))))
      (fun a oe cls d pn hz hf => pss_one (ps_ret (PE.imp (by exact pe_callP (p := (a, oe)) Gc_ (show L2H.RoomH 1 _ from ⟨(hr.mono (show 1 ≤ 3 by decide)).dp, (hr.mono (show 1 ≤ 3 by decide)).un⟩) List.mem_cons_self rfl gc kc Bc_ (pa_cons (pv 3) pa_nil)) (fun σ H Q h => by
        obtain ⟨e, k, hk, rfl, hd, q⟩ := h
        exact ⟨_, e, k, d, rfl, hk, hz, hf, hd, q⟩)))))
      (pss_one (ps_ret (pe_lst pa_nil))), ?_⟩
    have suite : ∀ (d : Option Addr) (H' : Hp), Same H H' → (∀ dx, d = some dx → ∃ fs, H' dx = some (exd dx fs)) → ∀ D : Ends, D.rt = Q → wAs K (.ref R) 3 (fun a cls d => tRet (tSu L 3 a cls d)) (fun _ _ _ _ => False) D (.ref (cA L k.toNat)) d (L2.start ["_law_at", "_law_one", "_law_two", "e"] [.int k, x, y]) H' := by
      intro d H' s hd D hD
      refine ⟨true, A.caught (by omega), fun _ a ha => ?_, fun z => by cases z⟩
      refine ⟨rfl, k.toNat, by omega, rfl, hd, fun q' H2 s2 h2 => ?_⟩
      show D.rt (.ref q') H2
      rw [hD]
      exact q q' H2 (s.trans s2) h2
    refine ⟨_, rfl, _, rfl, _, rfl, k, x, y, rfl, k0, k1, fun _ _ d H' s hd => suite d H' s hd _ rfl, fun hn => ?_⟩
    refine ⟨_, rfl, _, rfl, _, rfl, k, x, y, rfl, k0, k1, fun _ _ d H' s hd => suite d H' s hd _ rfl, fun hn2 => ?_⟩
    omega
end
end Ko

namespace Ko
open PySem L2 PySem.Spec PyProof.Rows
abbrev s_law : Stmt := top 50
theorem sc_law : FnScope ["_law_script", "_law_bag_here", "_law_at", "_law_kinds_here", "_law_due", "_law_late", "_law_kind_here", "_law_one", "_law_two", "_law_found", "_law_again", "_law_k"] ["_law_script"] (defScope s_law) := ⟨rfl, rfl, rfl, by decide +kernel, rfl, by decide +kernel, by decide +kernel⟩

/-- the error with this number made, in a list with the list of its fields -/
def spMade (L : List Addr) : Sp := fun vs H Q _ => ∃ (k way : Int) (x y : V), vs = [.int k, x, y, .int way] ∧ 0 ≤ k ∧ k < 31 ∧ ∀ (p r e : Addr) (fs : List (Str × V)) (H' : Hp), Same H H' → H' p = some (.lst [.ref e, .ref r]) →
  H' r = some (.lst ([x, y].take (arN k.toNat))) → Err H' e (cA L k.toNat) fs → Q (.ref p) H'
def spLaw (K : PySem.W.Frag) : Sp := fun vs H Q _ => ∃ (a : Addr) (ns : List Int), vs = [.ref a] ∧ SqL K H a (ns.map V.int) ∧ ∀ H', Q (.bl true) H'
theorem ar_eq {k : Int} (k0 : 0 ≤ k) (k1 : k < 31) : ar k = arN k.toNat := by
  have hk : k = 0 ∨ k = 1 ∨ k = 2 ∨ k = 3 ∨ k = 4 ∨ k = 5 ∨ k = 6 ∨ k = 7 ∨ k = 8 ∨ k = 9 ∨ k = 10 ∨ k = 11 ∨ k = 12 ∨ k = 13 ∨ k = 14 ∨ k = 15 ∨ k = 16 ∨ k = 17 ∨ k = 18 ∨ k = 19 ∨ k = 20 ∨ k = 21 ∨ k = 22 ∨ k = 23 ∨ k = 24 ∨ k = 25 ∨ k = 26 ∨ k = 27 ∨ k = 28 ∨ k = 29 ∨ k = 30 := by omega
  rcases hk with rfl | rfl | rfl | rfl | rfl | rfl | rfl | rfl | rfl | rfl | rfl | rfl | rfl | rfl | rfl | rfl | rfl | rfl | rfl | rfl | rfl | rfl | rfl | rfl | rfl | rfl | rfl | rfl | rfl | rfl | rfl
  all_goals rfl
theorem ar_le {k : Int} (k0 : 0 ≤ k) (k1 : k < 31) : arN k.toNat ≤ 2 := by
  have hk : k = 0 ∨ k = 1 ∨ k = 2 ∨ k = 3 ∨ k = 4 ∨ k = 5 ∨ k = 6 ∨ k = 7 ∨ k = 8 ∨ k = 9 ∨ k = 10 ∨ k = 11 ∨ k = 12 ∨ k = 13 ∨ k = 14 ∨ k = 15 ∨ k = 16 ∨ k = 17 ∨ k = 18 ∨ k = 19 ∨ k = 20 ∨ k = 21 ∨ k = 22 ∨ k = 23 ∨ k = 24 ∨ k = 25 ∨ k = 26 ∨ k = 27 ∨ k = 28 ∨ k = 29 ∨ k = 30 := by omega
  rcases hk with rfl | rfl | rfl | rfl | rfl | rfl | rfl | rfl | rfl | rfl | rfl | rfl | rfl | rfl | rfl | rfl | rfl | rfl | rfl | rfl | rfl | rfl | rfl | rfl | rfl | rfl | rfl | rfl | rfl | rfl | rfl
  all_goals decide
theorem pad {xs : List V} {n : Nat} (h : xs.length = n) (hn : n ≤ 2) : ∃ x0 x1, atI (xs ++ [V.non, V.non]) 0 = some x0 ∧ atI (xs ++ [V.non, V.non]) 1 = some x1 ∧ [x0, x1].take n = xs := by
  subst h
  match xs, hn with
  | [], _ => exact ⟨_, _, rfl, rfl, rfl⟩
  | [a], _ => exact ⟨_, _, rfl, rfl, rfl⟩
  | [a, b], _ => exact ⟨_, _, rfl, rfl, rfl⟩
  | _ :: _ :: _ :: _, h => exact absurd h (by simp)
def rowD (k : Nat) : List PyData := (List.range 31).map fun j => PyData.bool (decide (k = j))
theorem rowD_ok (K : PySem.W.Frag) (H : Hp) (k : Nat) : ∀ l : List Nat, DpAll K H (l.map fun j => V.bl (decide (k = j))) (l.map fun j => PyData.bool (decide (k = j)))
  | [] => .nil
  | j :: l => .cons (.bl _) (rowD_ok K H k l)
theorem rowD_shaped (k : Nat) : SeqAt.shaped (.list (rowD k)) = true := by
  rfl
theorem rowD_eqv (k : Nat) : PyData.eqv (.list (rowD k)) (.list (rowD k)) = true := SeqAt.eqv_refl _ (SeqAt.canLay_of_shaped (rowD_shaped k))
/-- [j == at for j in range(31)] -/
theorem rd_row {k : Int} (k0 : 0 ≤ k) {s0 s1 s3 s4 s5 s6 s7 s8 s9 s10 s11 : Option V} {H : Hp} {Q : VK} (q : ∀ (D : Addr) (H' : Hp), Same H H' → H' D = some (.lst (row k.toNat)) → Q (.ref D) H') :
    tLc (iRng1 (tCons (tC (.int 31)) tNil)) (gName 11) tYes (tOp rEq (tVar 11) (tVar 2)) [11] [s0, s1, some (.int k), s3, s4, s5, s6, s7, s8, s9, s10, s11] H Q := by
  refine ⟨31, rfl, by decide, by decide, fun D hD => lc_range (n := 31) (fun i H' => H' D = some (.lst ((List.range i).map fun j => V.bl (decide (k.toNat = j)))) ∧ Same H H') ⟨upd_same, Same.new (Same.refl H) hD⟩ (fun i H' hi h => ?_) (fun H' h => ?_)⟩
  · refine ⟨rfl, _, rfl, _, rfl, rfl, _, h.1, ?_, ?_, ?_⟩
    · rw [List.length_map, List.length_range, sizeLine_eq]
      omega
    · have e : decide (V.int (0 + (i : Int)) = V.int k) = decide (k.toNat = i) := by
        by_cases z : k.toNat = i
        · rw [decide_eq_true z, decide_eq_true (by rw [show (0 : Int) + (i : Int) = k by omega])]
        · rw [decide_eq_false z, decide_eq_false fun y => z (by have := V.int.inj y; omega)]
      rw [e, upd_same, List.range_succ, List.map_append]
      rfl
    · exact fun a o e => by
        rw [upd_ne (ne_of_none e hD)]
        exact h.2 a o e
  · exact q D H' h.2 h.1
section
variable {P : Program} {w : World} {K : PySem.W.Frag} {mg : Str → Option Value} {base : Heap} {R : Addr} {L : List Addr} {f : Addr} {fd : FuncData}
theorem ok_made {f1 f2 f3 : Addr} (F : Fun K "_law_made" "_law_made" s_made f fd) (D_low_made : Df P w K mg base 3 "_law_low_made" f1 ["_law_at", "_law_one", "_law_two", "_law_way"] (spPart L 0 10)) (D_middle_made : Df P w K mg base 3 "_law_middle_made" f2 ["_law_at", "_law_one", "_law_two", "_law_way"] (spPart L 11 20)) (D_high_made : Df P w K mg base 3 "_law_high_made" f3 ["_law_at", "_law_one", "_law_two", "_law_way"] (spPart L 21 30)) : FnOk P w K mg base CX0 4 f fd ["_law_at", "_law_one", "_law_two", "_law_way"] (spMade L) := by
  obtain ⟨fd1, G_low_made, B_low_made⟩ := D_low_made.ok
  obtain ⟨fd2, G_middle_made, B_middle_made⟩ := D_middle_made.ok
  obtain ⟨fd3, G_high_made, B_high_made⟩ := D_high_made.ok
  refine F.ok sc_made (fun vs H Q E h => ?_) (fun cdv A' outer s H vs Q E hr h => ?_)
  · obtain ⟨k, way, x, y, rfl, _⟩ := h
    rfl
  · obtain ⟨k, way, x, y, rfl, k0, k1, q⟩ := h
    refine ⟨_, (pss_cons (ps_set (i := 4) sc_made.nd rfl (.inl rfl) (pe_op op_cat (pe_call G_low_made (hr.mono (by decide)) (by rfl) D_low_made.g D_low_made.kp B_low_made .nil pass0 (pa_cons (pv 0) (pa_cons (pv 1) (pa_cons (pv 2) (pa_cons (pv 3) pa_nil))))) (pe_call G_middle_made (hr.mono (by decide)) (by rfl) D_middle_made.g D_middle_made.kp B_middle_made .nil pass0 (pa_cons (pv 0) (pa_cons (pv 1) (pa_cons (pv 2) (pa_cons (pv 3) pa_nil)))))))
      (pss_one (ps_ret (pe_op op_cat (pv 4) (pe_call G_high_made (hr.mono (by decide)) (by rfl) D_high_made.g D_high_made.kp B_high_made .nil pass0 (pa_cons (pv 0) (pa_cons (pv 1) (pa_cons (pv 2) (pa_cons (pv 3) pa_nil))))))))), ?_⟩
    by_cases c1 : k ≤ 10
    · refine ⟨_, rfl, _, rfl, _, rfl, _, rfl, k, way, x, y, rfl, k0, k1, fun hn => absurd ⟨k0, c1⟩ hn, fun _ _ p r e fs H1 s1 h1 h2 he => ?_⟩
      refine ⟨_, rfl, _, rfl, _, rfl, _, rfl, k, way, x, y, rfl, k0, k1, fun _ p2 H2 s2 g2 => ?_, fun l _ => by omega⟩
      refine ⟨p, p2, _, _, rfl, rfl, s2 _ _ h1, g2, by show 2 + 0 ≤ sizeLine; decide, fun p3 h3 => ?_⟩
      have s3 := Same.new (o := .lst ([.ref e, .ref r] ++ [])) (Same.refl H2) h3
      refine ⟨_, rfl, _, rfl, _, rfl, _, rfl, _, rfl, k, way, x, y, rfl, k0, k1, fun _ p4 H4 s4 g4 => ?_, fun l _ => by omega⟩
      refine ⟨p3, p4, _, _, rfl, rfl, s4 _ _ upd_same, g4, by show 2 + 0 ≤ sizeLine; decide, fun p5 h5 => ?_⟩
      have t := s2.trans (s3.trans (Same.new (o := .lst ([.ref e, .ref r] ++ [] ++ [])) s4 h5))
      exact q p5 r e fs _ (s1.trans t) upd_same (t _ _ h2) (he.same t)
    by_cases c2 : k ≤ 20
    · refine ⟨_, rfl, _, rfl, _, rfl, _, rfl, k, way, x, y, rfl, k0, k1, fun _ p2 H2 s2 g2 => ?_, fun _ l => by omega⟩
      refine ⟨_, rfl, _, rfl, _, rfl, _, rfl, k, way, x, y, rfl, k0, k1, fun hn => absurd ⟨by omega, c2⟩ hn, fun _ _ p r e fs H1 s1 h1 h2 he => ?_⟩
      refine ⟨p2, p, _, _, rfl, rfl, s1 _ _ g2, h1, by show 0 + 2 ≤ sizeLine; decide, fun p3 h3 => ?_⟩
      have s3 := Same.new (o := .lst ([] ++ [.ref e, .ref r])) (Same.refl H1) h3
      refine ⟨_, rfl, _, rfl, _, rfl, _, rfl, _, rfl, k, way, x, y, rfl, k0, k1, fun _ p4 H4 s4 g4 => ?_, fun l _ => by omega⟩
      refine ⟨p3, p4, _, _, rfl, rfl, s4 _ _ upd_same, g4, by show 2 + 0 ≤ sizeLine; decide, fun p5 h5 => ?_⟩
      have t := s3.trans (Same.new (o := .lst ([] ++ [.ref e, .ref r] ++ [])) s4 h5)
      exact q p5 r e fs _ (s2.trans (s1.trans t)) upd_same (t _ _ h2) (he.same t)
    · refine ⟨_, rfl, _, rfl, _, rfl, _, rfl, k, way, x, y, rfl, k0, k1, fun _ p2 H2 s2 g2 => ?_, fun _ l => by omega⟩
      refine ⟨_, rfl, _, rfl, _, rfl, _, rfl, k, way, x, y, rfl, k0, k1, fun _ p1 H1 s1 g1 => ?_, fun _ l => by omega⟩
      refine ⟨p2, p1, _, _, rfl, rfl, s1 _ _ g2, g1, by show 0 + 0 ≤ sizeLine; decide, fun p3 h3 => ?_⟩
      have s3 := Same.new (o := .lst ([] ++ [])) (Same.refl H1) h3
      refine ⟨_, rfl, _, rfl, _, rfl, _, rfl, _, rfl, k, way, x, y, rfl, k0, k1, fun hn => absurd ⟨by omega, by omega⟩ hn, fun _ _ p r e fs H4 s4 h1 h2 he => ?_⟩
      refine ⟨p3, p, _, _, rfl, rfl, s4 _ _ upd_same, h1, by show 0 + 2 ≤ sizeLine; decide, fun p5 h5 => ?_⟩
      have t := Same.new (o := .lst ([] ++ [] ++ [.ref e, .ref r])) (Same.refl H4) h5
      exact q p5 r e fs _ (s2.trans (s1.trans (s3.trans (s4.trans t)))) upd_same (t _ _ h2) (he.same t)
theorem ok_law {f1 f2 f3 f4 f5 f6 f7 f8 f9 : Addr} (F : Fun K "law" "law" s_law f fd) (A : All P w K mg base R L) (D_bag : Df P w K mg base 1 "_law_bag" f1 ["_law_script"] (spBag K)) (D_mixed : Df P w K mg base 2 "_law_mixed" f2 ["_law_bag_here", "_law_things"] spMixed) (D_kinds : Df P w K mg base 1 "_law_kinds" f3 ["_law_at"] spKinds) (D_kind : Df P w K mg base 6 "_law_kind" f4 ["_law_bag_here", "_law_kind_here"] spKind) (D_draw : Df P w K mg base 1 "_law_draw" f5 ["_law_bag_here", "_law_many"] spDraw) (D_made : Df P w K mg base 4 "_law_made" f6 ["_law_at", "_law_one", "_law_two", "_law_way"] (spMade L)) (D_like : Df P w K mg base 5 "_law_like" f7 ["_law_found", "_law_due"] (spLike 4)) (D_classes : Df P w K mg base 1 "_law_classes" f8 ["_law_error"] (spClasses L)) (D_caught : Df P w K mg base 4 "_law_caught" f9 ["_law_at", "_law_one", "_law_two"] spCaught) : FnOk P w K mg base CX0 8 f fd ["_law_script"] (spLaw K) := by
  obtain ⟨_, G_bag, B_bag⟩ := D_bag.ok
  obtain ⟨_, G_mixed, B_mixed⟩ := D_mixed.ok
  obtain ⟨_, G_kinds, B_kinds⟩ := D_kinds.ok
  obtain ⟨_, G_kind, B_kind⟩ := D_kind.ok
  obtain ⟨_, G_draw, B_draw⟩ := D_draw.ok
  obtain ⟨_, G_made, B_made⟩ := D_made.ok
  obtain ⟨_, G_like, B_like⟩ := D_like.ok
  obtain ⟨_, G_classes, B_classes⟩ := D_classes.ok
  obtain ⟨_, G_caught, B_caught⟩ := D_caught.ok
  refine F.ok sc_law (fun vs H Q E h => ?_) (fun cdv A' outer s H vs Q E hr h => ?_)
  · obtain ⟨a, ns, rfl, _⟩ := h
    rfl
  · obtain ⟨a, ns, rfl, hS, q⟩ := h
    refine ⟨_, (pss_cons (ps_set (i := 1) sc_law.nd rfl (.inr rfl) (pe_call G_bag (hr.mono (by decide)) (by rfl) D_bag.g D_bag.kp B_bag .nil pass0 (pa_cons (pv 0) pa_nil)))
      (pss_cons (ps_for PassesOwn.never rfl (pi_list (pe_call G_mixed (hr.mono (by decide)) (by rfl) D_mixed.g D_mixed.kp B_mixed .nil pass0 (pa_cons (pv 1) (pa_cons (pe_listRg rfl (by rfl) A.b.n_list (prg_1 (by rfl) A.b.n_range pe_int)) pa_nil)))) (pg_name (i := 2) sc_law.nd rfl (.inr rfl))
      (pss_cons (ps_set (i := 3) sc_law.nd rfl (.inl rfl) (pe_call G_kinds (hr.mono (by decide)) (by rfl) D_kinds.g D_kinds.kp B_kinds .nil pass0 (pa_cons (pv 2) pa_nil)))
      (pss_cons (ps_par (i := 4) (j := 5) rfl sc_law.nd rfl rfl (by decide) rfl rfl (pa_cons (pe_lc (own := [("_law_kind_here", 6)]) (g := gName 6) (tt := tYes) rfl sc_law.nd (pi_list (pv 3)) (blkOk_by (N := ["_law_script", "_law_bag_here", "_law_at", "_law_kinds_here", "_law_due", "_law_late", "_law_kind_here", "_law_one", "_law_two", "_law_found", "_law_again", "_law_k"]) (sc := defScope s_law) (by decide +kernel)) (fun _ _ _ _ _ => pg_name (i := 6) sc_law.nd rfl (.inl rfl)) (fun _ _ _ _ _ => pts_nil) (fun _ _ _ _ _ => (pe_call G_kind (hr.mono (by decide)) (by rfl) D_kind.g D_kind.kp B_kind .nil pass0 (pa_cons (pv 1) (pa_cons (pv 6) pa_nil))))) (pa_cons (pe_lc (own := [("_law_kind_here", 6)]) (g := gName 6) (tt := tYes) rfl sc_law.nd (pi_list (pv 3)) (blkOk_by (N := ["_law_script", "_law_bag_here", "_law_at", "_law_kinds_here", "_law_due", "_law_late", "_law_kind_here", "_law_one", "_law_two", "_law_found", "_law_again", "_law_k"]) (sc := defScope s_law) (by decide +kernel)) (fun _ _ _ _ _ => pg_name (i := 6) sc_law.nd rfl (.inl rfl)) (fun _ _ _ _ _ => pts_nil) (fun _ _ _ _ _ => (pe_call G_kind (hr.mono (by decide)) (by rfl) D_kind.g D_kind.kp B_kind .nil pass0 (pa_cons (pv 1) (pa_cons (pv 6) pa_nil))))) pa_nil)) rfl)
      (pss_cons (ps_par (i := 7) (j := 8) rfl sc_law.nd rfl rfl (by decide) rfl rfl (pa_cons (pe_op op_cat (pv 4) (pe_lst (pa_cons pe_non (pa_cons pe_non pa_nil)))) (pa_cons (pe_op op_cat (pv 5) (pe_lst (pa_cons pe_non (pa_cons pe_non pa_nil)))) pa_nil)) rfl)
      (pss_cons (ps_set (i := 9) sc_law.nd rfl (.inl rfl) (pe_call G_made (hr.mono (by decide)) (by rfl) D_made.g D_made.kp B_made .nil pass0 (pa_cons (pv 2) (pa_cons (pe_ix ix_list (pv 7) pe_int (fun _ _ => rfl)) (pa_cons (pe_ix ix_list (pv 7) pe_int (fun _ _ => rfl)) (pa_cons (pe_call G_draw (hr.mono (by decide)) (by rfl) D_draw.g D_draw.kp B_draw .nil pass0 (pa_cons (pv 1) (pa_cons pe_int pa_nil))) pa_nil))))))
      (pss_cons (ps_set (i := 10) sc_law.nd rfl (.inl rfl) (pe_call G_made (hr.mono (by decide)) (by rfl) D_made.g D_made.kp B_made .nil pass0 (pa_cons (pv 2) (pa_cons (pe_ix ix_list (pv 8) pe_int (fun _ _ => rfl)) (pa_cons (pe_ix ix_list (pv 8) pe_int (fun _ _ => rfl)) (pa_cons (pe_call G_draw (hr.mono (by decide)) (by rfl) D_draw.g D_draw.kp B_draw .nil pass0 (pa_cons (pv 1) (pa_cons pe_int pa_nil))) pa_nil))))))
      (pss_cons (ps_if (PW.pt (pw_or (pt_cmpR op_ne (pe_callB call_len_seq (by rfl) A.b.n_len PySem.boot_len (pa_cons (pv 9) pa_nil)) pe_int (nomark _)) (pw_or (pt_cmpR op_ne (pe_callB call_len_seq (by rfl) A.b.n_len PySem.boot_len (pa_cons (pv 10) pa_nil)) pe_int (nomark _)) (pw_or (pt_not (pt_val (pe_callB call_isErr (by rfl) A.b.n_isinstance (by decide +kernel) (pa_cons (pe_ix ix_list (pv 9) pe_int (fun _ _ => rfl)) (pa_cons (pe_glob (v := .ref _) (by rfl) A.r.g rfl) pa_nil))))) (pw_or1 (pt_not (pt_val (pe_callB call_isErr (by rfl) A.b.n_isinstance (by decide +kernel) (pa_cons (pe_ix ix_list (pv 9) pe_int (fun _ _ => rfl)) (pa_cons (pe_bltn (v := .ty "ValueError") (by rfl) A.b.n_ValueError (by decide +kernel) rfl) pa_nil))))))))))
      (pss_one (ps_ret pe_bl)) pss_nil)
      (pss_cons (ps_if (PW.pt (pw_or (pt_not (pt_val (pe_call G_like (hr.mono (by decide)) (by rfl) D_like.g D_like.kp B_like .nil pass0 (pa_cons (pe_ix ix_list (pv 9) pe_int (fun _ _ => rfl)) (pa_cons (pv 4) pa_nil))))) (pw_or1 (pt_not (pt_val (pe_call G_like (hr.mono (by decide)) (by rfl) D_like.g D_like.kp B_like .nil pass0 (pa_cons (pe_ix ix_list (pv 10) pe_int (fun _ _ => rfl)) (pa_cons (pv 5) pa_nil))))))))
      (pss_one (ps_ret pe_bl)) pss_nil)
      (pss_cons (ps_if (pt_cmpR (op_neD hr.units) (pe_call G_classes (hr.mono (by decide)) (by rfl) D_classes.g D_classes.kp B_classes .nil pass0 (pa_cons (pe_ix ix_list (pv 9) pe_int (fun _ _ => rfl)) pa_nil)) (pe_lc (own := [("_law_k", 11)]) (g := gName 11) (tt := tYes) rfl sc_law.nd (pi_range1 (by rfl) A.b.n_range (pa_cons pe_int pa_nil)) (blkOk_by (N := ["_law_script", "_law_bag_here", "_law_at", "_law_kinds_here", "_law_due", "_law_late", "_law_kind_here", "_law_one", "_law_two", "_law_found", "_law_again", "_law_k"]) (sc := defScope s_law) (by decide +kernel)) (fun _ _ _ _ _ => pg_name (i := 11) sc_law.nd rfl (.inl rfl)) (fun _ _ _ _ _ => pts_nil) (fun _ _ _ _ _ => (pe_cmpR op_eq (pv 11) (pv 2) (nomark _)))) (nomark _))
      (pss_one (ps_ret pe_bl)) pss_nil)
      (pss_one (ps_if (PW.pt (pw_and (pt_cmpR op_eq (pe_call G_draw (hr.mono (by decide)) (by rfl) D_draw.g D_draw.kp B_draw .nil pass0 (pa_cons (pv 1) (pa_cons pe_int pa_nil))) pe_int (nomark _)) (pw_and1 (pt_cmpR (op_neD hr.units) (pe_call G_caught (hr.mono (by decide)) (by rfl) D_caught.g D_caught.kp B_caught .nil pass0 (pa_cons (pv 2) (pa_cons (pe_ix ix_list (pv 7) pe_int (fun _ _ => rfl)) (pa_cons (pe_ix ix_list (pv 7) pe_int (fun _ _ => rfl)) pa_nil)))) (pe_lc (own := [("_law_k", 11)]) (g := gName 11) (tt := tYes) rfl sc_law.nd (pi_range1 (by rfl) A.b.n_range (pa_cons pe_int pa_nil)) (blkOk_by (N := ["_law_script", "_law_bag_here", "_law_at", "_law_kinds_here", "_law_due", "_law_late", "_law_kind_here", "_law_one", "_law_two", "_law_found", "_law_again", "_law_k"]) (sc := defScope s_law) (by decide +kernel)) (fun _ _ _ _ _ => pg_name (i := 11) sc_law.nd rfl (.inl rfl)) (fun _ _ _ _ _ => pts_nil) (fun _ _ _ _ _ => (pe_cmpR op_eq (pv 11) (pv 2) (nomark _)))) (nomark _)))))
      (pss_one (ps_ret pe_bl)) pss_nil)))))))))))
      (pss_one (ps_ret pe_bl)))), ?_⟩
    refine ⟨_, rfl, a, ns, rfl, hS, fun b c Hb sb B1 => ?_⟩
    refine ⟨_, rfl, 31, rfl, RgOk.of_le (by decide) (by decide) (by decide) (by decide), fun l hl => ?_⟩
    refine ⟨b, c, l, _, rfl, (B1.free hl).1, upd_same, by rw [rgV_length]; decide, ((Kp.refl B1).new hl).bag, fun p ys Hm hin hp hpb km => ⟨p, rfl, ⟨_, SqL.of hp⟩, for_list (K := K) (a := p) (xs := ys)
      (fun i σ H' => ∃ v2 v3 v4 v5 v6 v7 v8 v9 v10 v11, σ = [some (.ref a), some (.ref b), v2, v3, v4, v5, v6, v7, v8, v9, v10, v11] ∧ H' p = some (.lst ys) ∧ Bag H' b c)
      ⟨_, _, _, _, _, _, _, _, _, _, rfl, hp, km.bag⟩ (fun i σ H' _ h => ?_) ?_ ?_⟩⟩
    · obtain ⟨_, _, _, _, _, _, _, _, _, _, _, h, _⟩ := h
      exact SqL.of h
    · rintro i x σ H0 hx ⟨v2, v3, v4, v5, v6, v7, v8, v9, v10, v11, rfl, hp0, B0⟩
      obtain ⟨k, k0, k1, rfl⟩ : ∃ k : Int, 0 ≤ k ∧ k < 31 ∧ x = V.int k := by
        have hm := hin x (List.mem_of_getElem? hx)
        unfold rgV at hm
        obtain ⟨j, hj, e⟩ := List.mem_map.mp hm
        have hj2 := List.mem_range.mp hj
        exact ⟨0 + (j : Int), by omega, by omega, e.symm⟩
      refine ⟨_, rfl, k, rfl, k0, k1, fun p1 ks H1 hlen s1 h1 => ?_⟩
      have kk1 : Kp b c H0 H1 := (Kp.refl B0).same s1
      have n2 : ks.length ≤ 2 := by rw [hlen, ar_eq k0 k1]; exact ar_le k0 k1
      have hp1b : p1 ≠ b := kk1.bag.nePair h1 (by rw [List.length_map]; omega)
      refine ⟨_, rfl, p1, rfl, ⟨_, SqL.of h1⟩, fun D1 hD1 => ?_⟩
      obtain ⟨d1b, d1c⟩ := kk1.bag.free hD1
      refine lc_list (K := K) (a := p1) (xs := ks.map V.str) (fun i H' => ∃ acc : List V, H' D1 = some (.lst acc) ∧ acc.length = i ∧ (∀ x ∈ acc, Val H' (fun a => a ≠ b ∧ a ≠ D1) 3 x) ∧ Kp b c H1 H')
        ⟨[], upd_same, rfl, (fun x hx => by cases hx), (Kp.refl kk1.bag).new hD1⟩ (fun i H' _ h => ?_) (fun i x H' hx h => ?_) (fun H2 h => ?_)
      · obtain ⟨_, _, _, _, k4⟩ := h
        exact SqL.of (k4.at hp1b h1)
      · obtain ⟨acc, ha, hl, hv, k4⟩ := h
        obtain ⟨z, _, rfl⟩ := List.mem_map.mp (List.mem_of_getElem? hx)
        have hi : i < (ks.map V.str).length := (List.getElem?_eq_some_iff.mp hx).1
        rw [List.length_map] at hi
        refine ⟨rfl, _, rfl, _, rfl, b, c, z, rfl, k4.bag, fun v H5 hv5 k5 => ?_⟩
        have ha5 := k5.at d1b ha
        refine ⟨acc, ha5, by rw [sizeLine_eq]; omega, acc ++ [v], upd_same, by rw [List.length_append, hl]; rfl, fun y hy => ?_, (k4.trans k5).put hD1 d1b d1c⟩
        rcases List.mem_append.1 hy with hy | hy
        · exact Val.keep (fun a o z e => by rw [upd_ne z.2]; exact k5.at z.1 e) (fun a z => z) (hv y hy)
        · rw [List.mem_singleton.mp hy]
          have nd : ∀ a, Fre H' a → a ≠ D1 := fun a z e => by
            have z2 : H' D1 = none := e ▸ z
            rw [z2] at ha
            cases ha
          exact Val.keep (fun a o z e => by rw [upd_ne (nd a z)]; exact e) (fun a z => ⟨(k4.bag.free z).1, nd a z⟩) hv5
      obtain ⟨xs, hxs, lxs, vxs0, k2⟩ := h
      have vxs : ∀ x ∈ xs, Val H2 (fun a => a ≠ b) 3 x := fun x hx => Val.keep (fun a o _ e => e) (fun a z => z.1) (vxs0 x hx)
      clear vxs0
      have h1' := k2.at hp1b h1
      refine ⟨_, rfl, p1, rfl, ⟨_, SqL.of h1'⟩, fun D2 hD2 => ?_⟩
      obtain ⟨d2b, d2c⟩ := k2.bag.free hD2
      refine lc_list (K := K) (a := p1) (xs := ks.map V.str) (fun i H' => ∃ acc : List V, H' D2 = some (.lst acc) ∧ acc.length = i ∧ (∀ x ∈ acc, Val H' (fun a => a ≠ b ∧ a ≠ D2) 3 x) ∧ Kp b c H2 H')
        ⟨[], upd_same, rfl, (fun x hx => by cases hx), (Kp.refl k2.bag).new hD2⟩ (fun i H' _ h => ?_) (fun i x H' hx h => ?_) (fun H3 h => ?_)
      · obtain ⟨_, _, _, _, k4⟩ := h
        exact SqL.of (k4.at hp1b h1')
      · obtain ⟨acc, ha, hl, hv, k4⟩ := h
        obtain ⟨z, _, rfl⟩ := List.mem_map.mp (List.mem_of_getElem? hx)
        have hi : i < (ks.map V.str).length := (List.getElem?_eq_some_iff.mp hx).1
        rw [List.length_map] at hi
        refine ⟨rfl, _, rfl, _, rfl, b, c, z, rfl, k4.bag, fun v H5 hv5 k5 => ?_⟩
        have ha5 := k5.at d2b ha
        refine ⟨acc, ha5, by rw [sizeLine_eq]; omega, acc ++ [v], upd_same, by rw [List.length_append, hl]; rfl, fun y hy => ?_, (k4.trans k5).put hD2 d2b d2c⟩
        rcases List.mem_append.1 hy with hy | hy
        · exact Val.keep (fun a o z e => by rw [upd_ne z.2]; exact k5.at z.1 e) (fun a z => z) (hv y hy)
        · rw [List.mem_singleton.mp hy]
          have nd : ∀ a, Fre H' a → a ≠ D2 := fun a z e => by
            have z2 : H' D2 = none := e ▸ z
            rw [z2] at ha
            cases ha
          exact Val.keep (fun a o z e => by rw [upd_ne (nd a z)]; exact e) (fun a z => ⟨(k4.bag.free z).1, nd a z⟩) hv5
      obtain ⟨us, hus, lus, vus0, k3⟩ := h
      have vus : ∀ x ∈ us, Val H3 (fun a => a ≠ b) 3 x := fun x hx => Val.keep (fun a o _ e => e) (fun a z => z.1) (vus0 x hx)
      clear vus0
      have hxs3 := k3.at d1b hxs
      have vxs3 : ∀ x ∈ xs, Val H3 (fun a => a ≠ b) 3 x := fun x hx => Val.keep (fun a o z e => k3.at z e) (fun a z => z) (vxs x hx)
      have k03 := kk1.trans (k2.trans k3)
      rw [List.length_map] at lxs lus
      refine ⟨_, _, rfl, ?_⟩
      -- one, two
      refine ⟨_, rfl, by show 2 ≤ sizeLine; decide, fun n1 hn1 => ⟨D1, n1, xs, [.non, .non], rfl, rfl, by rw [upd_ne (ne_of_none hxs3 hn1)]; exact hxs3, upd_same, by show xs.length + 2 ≤ sizeLine; rw [sizeLine_eq]; omega, fun o1 ho1 => ?_⟩⟩
      have t1 := Same.new (o := .lst (xs ++ [.non, .non])) (Same.new (o := .lst [.non, .non]) (Same.refl H3) hn1) ho1
      have e1 : upd (upd H3 n1 (.lst [V.non, .non])) o1 (.lst (xs ++ [V.non, .non])) o1 = some (.lst (xs ++ [V.non, .non])) := upd_same
      generalize upd (upd H3 n1 (.lst [V.non, .non])) o1 (.lst (xs ++ [V.non, .non])) = H4 at t1 e1
      have hus4 := t1 _ _ hus
      refine ⟨_, rfl, by show 2 ≤ sizeLine; decide, fun n2' hn2 => ⟨D2, n2', us, [.non, .non], rfl, rfl, by rw [upd_ne (ne_of_none hus4 hn2)]; exact hus4, upd_same, by show us.length + 2 ≤ sizeLine; rw [sizeLine_eq]; omega, fun o2 ho2 => ?_⟩⟩
      have t2 := Same.new (o := .lst (us ++ [.non, .non])) (Same.new (o := .lst [.non, .non]) (Same.refl H4) hn2) ho2
      have e2 : upd (upd H4 n2' (.lst [V.non, .non])) o2 (.lst (us ++ [V.non, .non])) o2 = some (.lst (us ++ [V.non, .non])) := upd_same
      generalize upd (upd H4 n2' (.lst [V.non, .non])) o2 (.lst (us ++ [V.non, .non])) = H5 at t2 e2
      have t5 := t1.trans t2
      have e15 := t2 _ _ e1
      have k05 := k03.same t5
      have hxs5 := t5 _ _ hxs3
      have hus5 := t5 _ _ hus
      have vxs5 : ∀ x ∈ xs, Val H5 (fun a => a ≠ b) 3 x := fun x hx => (vxs3 x hx).same t5
      have vus5 : ∀ x ∈ us, Val H5 (fun a => a ≠ b) 3 x := fun x hx => (vus x hx).same t5
      have lenx : xs.length = arN k.toNat := by rw [lxs, hlen, ar_eq k0 k1]
      have lenu : us.length = arN k.toNat := by rw [lus, hlen, ar_eq k0 k1]
      obtain ⟨x0, x1, g0, g1, gx⟩ := pad lenx (ar_le k0 k1)
      obtain ⟨u0, u1, w0, w1, gu⟩ := pad lenu (ar_le k0 k1)
      have ob1 : o1 ≠ b := k05.bag.nePair e15 (by simp only [List.length_append, List.length_cons, List.length_nil]; omega)
      have ob2 : o2 ≠ b := k05.bag.nePair e2 (by simp only [List.length_append, List.length_cons, List.length_nil]; omega)
      refine ⟨_, _, rfl, ?_⟩
      -- found
      refine ⟨_, rfl, _, rfl, o1, _, 0, x0, rfl, rfl, SqL.of e15, g0, _, rfl, o1, _, 1, x1, rfl, rfl, SqL.of e15, g1, _, rfl, b, c, 3, rfl, by decide, by decide, k05.bag, fun way H6 y0 y1 k6 => ?_⟩
      refine ⟨k, way, x0, x1, rfl, k0, k1, fun pf rf ef fs H7 s7 f1 f2 f3 => ?_⟩
      rw [gx] at f2
      have k7 := k6.same s7
      have e27 := k7.at ob2 e2
      -- again
      refine ⟨_, rfl, _, rfl, o2, _, 0, u0, rfl, rfl, SqL.of e27, w0, _, rfl, o2, _, 1, u1, rfl, rfl, SqL.of e27, w1, _, rfl, b, c, 3, rfl, by decide, by decide, k7.bag, fun way2 H8 y2 y3 k8 => ?_⟩
      have pfb : pf ≠ b := k7.bag.nePair f1 (by show 2 ≠ 5; decide)
      have rfb : rf ≠ b := k7.bag.nePair f2 (by omega)
      refine ⟨k, way2, u0, u1, rfl, k0, k1, fun pg rg eg gs H9 s9 a1 a2 a3 => ?_⟩
      rw [gu] at a2
      have k9 := k8.same s9
      have f19 := k9.at pfb f1
      have f29 := k9.at rfb f2
      have efb : Err H9 ef (cA L k.toNat) fs := by
        have keep : ∀ p φ, H7 p = some (.ext φ) → H9 p = some (.ext φ) := fun p φ e => by
          refine k9.at (fun z => ?_) e
          obtain ⟨_, _, _, _, _, _, hbb, _⟩ := k7.bag
          rw [z, hbb] at e
          cases e
        rcases f3 with ⟨z, e⟩ | ⟨d, ne, e, ed⟩
        · exact .inl ⟨z, keep _ _ e⟩
        · exact .inr ⟨d, ne, keep _ _ e, keep _ _ ed⟩
      have k59 := (k6.same s7).trans k9
      have hxs9 := k59.at d1b hxs5
      have hus9 := k59.at d2b hus5
      have vxs9 : ∀ x ∈ xs, Val H9 Any 3 x := fun x hx => Val.keep (fun a o z e => k59.at z e) (fun a z => trivial) (vxs5 x hx)
      have vus9 : ∀ x ∈ us, Val H9 Any 3 x := fun x hx => Val.keep (fun a o z e => k59.at z e) (fun a z => trivial) (vus5 x hx)
      have e19 := k59.at ob1 e15
      have kt : k.toNat < 31 := by omega
      obtain ⟨xn, xps, xe⟩ := tab_at kt
      refine ⟨_, rfl, pf, _, rfl, .inl (SqL.of f19), rfl, _, rfl, iteF ?_⟩
      refine ⟨_, rfl, pg, _, rfl, .inl (SqL.of a1), rfl, _, rfl, iteF ?_⟩
      refine ⟨_, rfl, pf, _, 0, .ref ef, rfl, rfl, SqL.of f19, rfl, ef, _, fs, .ref R, .ref R, true, rfl, efb, A.xc kt, .own _, (A.e xe).kit_base A.r (A.neR kt), _, rfl, iteF ?_⟩
      refine ⟨_, rfl, pf, _, 0, .ref ef, rfl, rfl, SqL.of f19, rfl, ef, _, fs, .ty "ValueError", .type "ValueError", true, rfl, efb, A.xc kt, .ty _, (A.e xe).kit_VE, _, rfl, iteF ?_⟩
      -- alike
      refine ⟨_, rfl, pf, _, 1, .ref rf, rfl, rfl, SqL.of f19, rfl, _, rfl, _, _, rfl, .inr ⟨rf, D1, xs, 3, rfl, rfl, .inl ⟨f29, hxs9⟩, by omega, rfl, vxs9⟩, fun H10 s10 => ⟨_, rfl, iteF ?_⟩⟩
      refine ⟨_, rfl, pg, _, 1, .ref rg, rfl, rfl, SqL.of (s10 _ _ a1), rfl, _, rfl, _, _, rfl, .inr ⟨rg, D2, us, 3, rfl, rfl, .inl ⟨s10 _ _ a2, s10 _ _ hus9⟩, by omega, rfl, fun x hx => (vus9 x hx).same s10⟩, fun H11 s11 => ⟨_, rfl, iteF ?_⟩⟩
      have s911 := s10.trans s11
      -- the classes
      refine ⟨_, rfl, pf, _, 0, .ref ef, rfl, rfl, SqL.of (s911 _ _ f19), rfl, ef, k.toNat, fs, rfl, kt, efb.same s911, fun pc H12 s12 c12 => rd_row k0 fun D H13 s13 d13 => ?_⟩
      refine ⟨.list (rowD k.toNat), .list (rowD k.toNat), .lst (SqL.of (s13 _ _ c12)) (rowD_ok _ _ _ _), .lst (SqL.of d13) (rowD_ok _ _ _ _), rowD_shaped _, rowD_shaped _, _, rfl, ?_⟩
      rw [rowD_eqv]
      refine iteF ?_
      have s913 := s911.trans (s12.trans s13)
      have k013 := (k05.trans k59).same s913
      -- caught
      refine ⟨_, rfl, b, c, 3, rfl, by decide, by decide, k013.bag, fun w3 H14 y4 y5 k14 => ⟨rfl, _, rfl, ite2 (fun c3 => ?_) (fun c3 => ?_)⟩⟩
      · have e114 := k14.at ob1 (s913 _ _ e19)
        refine ⟨_, rfl, _, rfl, o1, _, 0, x0, rfl, rfl, SqL.of e114, g0, _, rfl, o1, _, 1, x1, rfl, rfl, SqL.of e114, g1, k, x0, x1, rfl, k0, k1, fun pc2 H15 s15 c15 => rd_row k0 fun D' H16 s16 d16 => ?_⟩
        refine ⟨.list (rowD k.toNat), .list (rowD k.toNat), .lst (SqL.of (s16 _ _ c15)) (rowD_ok _ _ _ _), .lst (SqL.of d16) (rowD_ok _ _ _ _), rowD_shaped _, rowD_shaped _, _, rfl, ?_⟩
        rw [rowD_eqv]
        have kend := (k013.trans k14).same (s15.trans s16)
        exact iteF ⟨_, _, _, _, _, _, _, _, _, _, rfl, kend.at hpb hp0, kend.bag⟩
      · have kend := k013.trans k14
        exact ⟨_, _, _, _, _, _, _, _, _, _, rfl, kend.at hpb hp0, kend.bag⟩
    · rintro σ H' ⟨v2, v3, v4, v5, v6, v7, v8, v9, v10, v11, rfl, hp0, B0⟩
      exact q H'
end
end Ko

namespace Ko
open PySem L2 PySem.Spec PyProof.Rows

open PySem.HandSPX (veTail)
/-! The head: what the top leaves, by one run in the kernel -/
def ecB (K : PySem.W.Frag) (R C : Addr) : Bool := match K.lookup C with
  | some ⟨.type c, _, .cls cd, sl⟩ => (match sl.toList with
    | [_, _, _, _, some (.builtin n), _] => decide (c = "type") && (decide (n = "ValueError.__new__") && (decide (cd.mro = .ref C :: .ref R :: veTail) && (cd.hasDict && !cd.hasDel)))
    | _ => false)
  | _ => false
theorem ecB_ok {K : PySem.W.Frag} {R C : Addr} (h : ecB K R C = true) :
    ∃ nm q N bs sn sub ab col dd k0 k1 k2 k3 k5, K.lookup C = some (excClassObj nm q C N bs (.ref R :: veTail) true sn sub ab col dd k0 k1 k2 k3 k5 "ValueError.__new__") := by
  unfold ecB at h
  split at h
  · rename_i c dd cd sl ho
    split at h
    · rename_i k0 k1 k2 k3 n k5 hs
      simp only [Bool.and_eq_true, decide_eq_true_eq, Bool.not_eq_true'] at h
      obtain ⟨rfl, rfl, hm, hd, hdel⟩ := h
      obtain ⟨nm, bs, mro, ns, qn, hd2, sn, sub, ab, col, del⟩ := cd
      dsimp only at hm hd hdel
      subst hm hd hdel
      have hsl : sl = #[k0, k1, k2, k3, some (.builtin "ValueError.__new__"), k5] := by
        obtain ⟨l⟩ := sl
        simp only at hs
        rw [hs]
      subst hsl
      exact ⟨nm, qn, ns, bs, sn, sub, ab, col, dd, k0, k1, k2, k3, k5, ho⟩
    · cases h
  · cases h
/-- the class of an error, as the text leaves it -/
def clsB (K : PySem.W.Frag) (x : Str) (ps : List Str) : Bool :=
  He.eqO (PySem.W.nsIn K mainGlobals x) (some (some (.ref (He.ga K x)))) && (ecB K (He.ga K "Refused") (He.ga K x) && (He.eqO (PySem.W.findIn K (.ref (He.ga K x)) "__setattr__") (some (some (.builtin "object.__setattr__"))) &&
  (He.eqO (PySem.W.findIn K (.ref (He.ga K x)) "__getattribute__") (some (some (.builtin "BaseException.__getattribute__"))) && (He.eqO (PySem.W.findIn K (.ref (He.ga K x)) "__getattr__") (some none) &&
  (He.eqO (PySem.W.findIn K (.ref (He.ga K x)) "__class__") (some (some (.builtin "object.__class__"))) && ((ps.all fun p => He.eqO (PySem.W.findIn K (.ref (He.ga K x)) p) (some none)) && (PySem.W.keepIn K (.ref (He.ga K x)) &&
  (He.eqO (PySem.W.findIn K (.ref (He.ga K x)) "__init__") (some (some (.ref (He.ma K (He.ga K x) "__init__")))) && decide (PySem.W.typeIn K (.ref (He.ma K (He.ga K x) "__init__")) = some (.type "function"))))))))))
theorem clsB_ok {K : PySem.W.Frag} {h : Heap} {mg : Str → Option Value} {x : Str} {ps : List Str} (X : K.In h) (G : h.Ns mainGlobals mg) (c : clsB K x ps = true) :
    Ecl K mg (He.ga K "Refused") x (He.ga K x) ps ∧ PySem.W.findIn K (.ref (He.ga K x)) "__init__" = some (some (.ref (He.ma K (He.ga K x) "__init__"))) ∧ PySem.W.typeIn K (.ref (He.ma K (He.ga K x) "__init__")) = some (.type "function") := by
  obtain ⟨c1, c⟩ := He.ba c
  obtain ⟨c2, c⟩ := He.ba c
  obtain ⟨c3, c⟩ := He.ba c
  obtain ⟨c4, c⟩ := He.ba c
  obtain ⟨c5, c⟩ := He.ba c
  obtain ⟨c6, c⟩ := He.ba c
  obtain ⟨c7, c⟩ := He.ba c
  obtain ⟨c8, c⟩ := He.ba c
  obtain ⟨c9, c10⟩ := He.ba c
  exact ⟨⟨PySem.W.mg_of X G (He.eqO_ok c1), ecB_ok c2, He.eqO_ok c3, He.eqO_ok c4, He.eqO_ok c5, He.eqO_ok c6, fun p hp => He.eqO_ok (List.all_eq_true.mp c7 p hp), c8⟩, He.eqO_ok c9, of_decide_eq_true c10⟩
def eqF (a b : Option PySem.W.CFound) : Bool := match a, b with
  | some (.val (.builtin n)), some (.val (.builtin m)) => decide (n = m)
  | _, _ => false
theorem eqF_ok {a : Option PySem.W.CFound} {n : String} (h : eqF a (some (.val (.builtin n))) = true) : a = some (.val (.builtin n)) := by
  unfold eqF at h
  split at h
  · rename_i n1 m1 e
    cases e
    rw [of_decide_eq_true h]
  · cases h
/-- the base of the errors -/
def refB (K : PySem.W.Frag) : Bool :=
  He.eqO (PySem.W.nsIn K mainGlobals "Refused") (some (some (.ref (He.ga K "Refused")))) && (PySem.W.readsIn K (He.ga K "Refused") (.type "type") && (He.eqO (PySem.W.specialIn K (.ref (He.ga K "Refused")) "__getattribute__") (some (some (.builtin "type.__getattribute__"))) &&
  (eqF (PySem.W.findCls K (.ref (He.ga K "Refused")) (.type "type") "__init__") (some (.val (.builtin "ValueError.__init__"))) && ((PySem.W.clsIn K (He.ga K "Refused")).isSome && (decide (PySem.W.typeIn K (.ref (He.ga K "Refused")) = some (.type "type")) &&
  (He.eqO (PySem.W.specialIn K (.builtin "object.__class__") "__get__") (some (some (.builtin "getset_descriptor.__get__"))) && (decide (PySem.W.takesIn K (.builtin "object.__class__") = some true) &&
  (decide (PySem.W.subIn K (.ref (He.ga K "Refused")) (.type "BaseException") = some true) && PySem.W.hasDictIn K (He.ga K "Refused")))))))))
theorem refB_ok {K : PySem.W.Frag} {h : Heap} {mg : Str → Option Value} (X : K.In h) (G : h.Ns mainGlobals mg) (c : refB K = true) : RTxt K mg (He.ga K "Refused") := by
  obtain ⟨c1, c⟩ := He.ba c
  obtain ⟨c2, c⟩ := He.ba c
  obtain ⟨c3, c⟩ := He.ba c
  obtain ⟨c4, c⟩ := He.ba c
  obtain ⟨c5, c⟩ := He.ba c
  obtain ⟨c6, c⟩ := He.ba c
  obtain ⟨c7, c⟩ := He.ba c
  obtain ⟨c8, c⟩ := He.ba c
  obtain ⟨c9, c10⟩ := He.ba c
  exact ⟨PySem.W.mg_of X G (He.eqO_ok c1), ⟨c2, He.eqO_ok c3⟩, eqF_ok c4, c5, of_decide_eq_true c6, He.eqO_ok c7, of_decide_eq_true c8, of_decide_eq_true c9, c10⟩
def bltNames : List Str := ["len", "int", "str", "list", "tuple", "bool", "range", "zip", "all", "isinstance", "ValueError"]
def defNames : List Str := ["_law_bag", "_law_draw", "_law_of", "_law_mixed", "_law_like", "_law_value", "_law_kind", "_law_kinds", "_law_classes", "_law_low_made", "_law_middle_made", "_law_high_made", "_law_raise_low", "_law_raise_high", "_law_made", "_law_caught", "law"]
/-- all that is asked of the text -/
def exB (K : PySem.W.Frag) : Bool := refB K && ((tab.all fun p => clsB K p.1 p.2) && ((bltNames.all fun x => He.eqO (PySem.W.nsIn K mainGlobals x) (some none)) && ((defNames.all fun x => He.eqO (PySem.W.nsIn K mainGlobals x) (some (some (.ref (He.ga K x))))) &&
  decide ((He.ga K "Refused" :: tab.map fun p => He.ga K p.1).Nodup))))
def mkD (x : Str) (st : Stmt) : He.DefD := ⟨(x, none), x, x, defArgs st, defBody st, defScope st, [], []⟩
def mkI (x qual : Str) (st : Stmt) : He.DefD := ⟨(x, some "__init__"), "__init__", qual, defArgs st, defBody st, defScope st, [], []⟩
def fnI : List He.DefD := [mkI "BadNumber" "BadNumber.__init__" s_BadNumber,
  mkI "BadRule" "BadRule.__init__" s_BadRule,
  mkI "BadMode" "BadMode.__init__" s_BadMode,
  mkI "BadPoint" "BadPoint.__init__" s_BadPoint,
  mkI "BadNet" "BadNet.__init__" s_BadNet,
  mkI "BadLoft" "BadLoft.__init__" s_BadLoft,
  mkI "NotClosed" "NotClosed.__init__" s_NotClosed,
  mkI "NotTwo" "NotTwo.__init__" s_NotTwo,
  mkI "Twisted" "Twisted.__init__" s_Twisted,
  mkI "Singular" "Singular.__init__" s_Singular,
  mkI "BadHeights" "BadHeights.__init__" s_BadHeights,
  mkI "BadSetup" "BadSetup.__init__" s_BadSetup,
  mkI "BadLayers" "BadLayers.__init__" s_BadLayers,
  mkI "NoPoint" "NoPoint.__init__" s_NoPoint,
  mkI "Laid" "Laid.__init__" s_Laid,
  mkI "NoProp" "NoProp.__init__" s_NoProp,
  mkI "BadFilling" "BadFilling.__init__" s_BadFilling,
  mkI "BadChooser" "BadChooser.__init__" s_BadChooser,
  mkI "UnknownJob" "UnknownJob.__init__" s_UnknownJob,
  mkI "NotReady" "NotReady.__init__" s_NotReady,
  mkI "AllDone" "AllDone.__init__" s_AllDone,
  mkI "BadIndex" "BadIndex.__init__" s_BadIndex,
  mkI "NotOrder" "NotOrder.__init__" s_NotOrder,
  mkI "Ring" "Ring.__init__" s_Ring,
  mkI "BadRow" "BadRow.__init__" s_BadRow,
  mkI "NoLayer" "NoLayer.__init__" s_NoLayer,
  mkI "Touch" "Touch.__init__" s_Touch,
  mkI "Hangs" "Hangs.__init__" s_Hangs,
  mkI "Outside" "Outside.__init__" s_Outside,
  mkI "Loses" "Loses.__init__" s_Loses,
  mkI "BadText" "BadText.__init__" s_BadText]
def fnL : List He.DefD := [mkD "_law_bag" (top 34), mkD "_law_draw" (top 35), mkD "_law_of" (top 36), mkD "_law_mixed" (top 37), mkD "_law_like" (top 38), mkD "_law_value" (top 39), mkD "_law_kind" (top 40), mkD "_law_kinds" (top 41), mkD "_law_classes" (top 42), mkD "_law_low_made" (top 43), mkD "_law_middle_made" (top 44), mkD "_law_high_made" (top 45), mkD "_law_raise_low" (top 46), mkD "_law_raise_high" (top 47), mkD "_law_made" (top 48), mkD "_law_caught" (top 49), mkD "law" (top 50)]
def fnA : List He.DefD := fnI ++ fnL
abbrev HA : Type := Bool × He.AlD
def obsK (K : PySem.W.Frag) : HA := (exB K, He.obsD [] fnA K)
def obsG (n : Nat) (g : Addr → Option Obj) : HA := obsK (He.frG g (cStatics :: He.asD g n))
def hk : PySem.W.Hook where
  α := HA
  obs := fun s => obsG 4 s.heap.get?
  val := fun _ => (true, He.valD fnA)
  says := fun _ h => ∃ K : PySem.W.Frag, K.In h ∧ exB K = true ∧ He.SaysD [] fnA K
  of := fun _ _ e => ⟨_, He.frG_in, congrArg (fun z : HA => z.1) e, congrArg (fun z : HA => z.2) e⟩
  keeps := fun _ _ _ h k => by
    obtain ⟨K, a, b, c⟩ := h
    exact ⟨K, PySem.W.Frag.In.keeps a k, b, c⟩
theorem obsG_eq {g : Addr → Option Obj} {s : Shared} (h : ∀ a, g a = s.heap.get? a) : obsG 4 g = hk.obs s := by
  rw [show g = s.heap.get? from funext h]
  rfl
abbrev Rw : PySem.W.OpenRow := PySem.W.OpenLaw.row PySem.Challenge.rw_mostlaid_k00_errors_by_themselves
def ob (s : PySem.W.SharedT) : HA := obsG 4 (HandSHeadRun.getT s)
theorem ob_eq (s : PySem.W.SharedT) : ob s = hk.obs s.abs := obsG_eq (HandSHeadRun.getT_eq s)
def loose1 : List Str := ["Refused", "BadNumber", "BadRule", "BadMode", "BadPoint", "BadNet", "BadLoft", "NotClosed", "NotTwo", "Twisted", "Singular", "BadHeights", "BadSetup", "BadLayers", "NoPoint", "Laid", "NoProp", "BadFilling", "BadChooser", "UnknownJob", "NotReady", "AllDone", "BadIndex", "NotOrder", "Ring", "BadRow", "NoLayer", "Touch", "Hangs", "Outside"]
def loose2 : List Str := ["Loses", "BadText", "_law_bag", "_law_draw", "_law_of", "_law_mixed", "_law_like", "_law_value", "_law_kind", "_law_kinds", "_law_classes", "_law_low_made", "_law_middle_made", "_law_high_made", "_law_raise_low", "_law_raise_high", "_law_made", "_law_caught"]
def loose : List Str := loose1 ++ loose2
theorem run (w : World) : HandSHeadRun.RunEq Rw (PySem.W.view Rw.prog [50]) hk ob 9000 loose w := by
  intro os
  kernel_rfl
end Ko

namespace Ko
open PySem L2 PySem.Spec PyProof.Rows

theorem fun_of {K : PySem.W.Frag} {x qual : Str} {st : Stmt} {f : Addr} {fd : FuncData} (F : FunD K x qual (defArgs st) (defBody st) (defScope st) [] [] f fd) : Fun K x qual st f fd := by
  obtain ⟨oc, od, dV, kV, doc, pm, an, cdv, ct, osl, rfl, lk, hcode, hD, _⟩ := F.ex
  rcases hD with ⟨_, rfl⟩ | ⟨z, _⟩
  · exact ⟨⟨oc, od, kV, doc, pm, an, cdv, ct, osl, rfl, lk, hcode⟩, F.kp⟩
  · exact absurd rfl z
abbrev clL (K : PySem.W.Frag) : List Addr := tab.map fun p => He.ga K p.1
theorem clL_at {K : PySem.W.Frag} {i : Nat} {x : Str} {ps : List Str} (h : tab[i]? = some (x, ps)) : cA (clL K) i = He.ga K x := by
  unfold cA clL
  rw [List.getD_eq_getElem?_getD, List.getElem?_map, h]
  rfl
theorem facts {P : Program} {w : World} {K : PySem.W.Frag} {h : Heap} {mg : Str → Option Value} {fa : Addr} (X : K.In h) (G : h.Ns mainGlobals mg) (hfa : mg ("law" : Str) = some (.ref fa)) (x : exB K = true) (c : He.SaysD [] fnA K) :
    ∃ fd : FuncData, (∀ (s : Shared) (v : Value), BindsTo s fd ⟨[v], []⟩ [("_law_script", v)]) ∧ ∀ base : Heap, K.In base → base.Ns mainGlobals mg → FnOk P w K mg base CX0 8 fa fd ["_law_script"] (spLaw K) := by
  obtain ⟨x1, x⟩ := He.ba x
  obtain ⟨x2, x⟩ := He.ba x
  obtain ⟨x3, x⟩ := He.ba x
  obtain ⟨x4, x5⟩ := He.ba x
  have T := refB_ok X G x1
  have free : ∀ n ∈ bltNames, mg n = none := fun n hn => PySem.W.mg_none_of X G (He.eqO_ok (List.all_eq_true.mp x3 n hn))
  have glo : ∀ n ∈ defNames, mg n = some (.ref (He.ga K n)) := fun n hn => PySem.W.mg_of X G (He.eqO_ok (List.all_eq_true.mp x4 n hn))
  have B : Blt mg := ⟨free "len" (by decide), free "int" (by decide), free "str" (by decide), free "list" (by decide), free "tuple" (by decide), free "bool" (by decide), free "range" (by decide), free "zip" (by decide), free "all" (by decide), free "isinstance" (by decide), free "ValueError" (by decide)⟩
  have cl : ∀ {i : Nat} {x : Str} {ps : List Str}, tab[i]? = some (x, ps) → clsB K x ps = true := fun {i x ps} e => List.all_eq_true.mp x2 (x, ps) (List.mem_of_getElem? e)
  have ec : ∀ {i : Nat} {x : Str} {ps : List Str}, tab[i]? = some (x, ps) → Ecl K mg (He.ga K "Refused") x (cA (clL K) i) ps := fun {i x ps} e => by
    rw [clL_at e]
    exact (clsB_ok X G (cl e)).1
  obtain ⟨fd_BadNumber, FD_BadNumber⟩ := c.def_ 0 (d := mkI "BadNumber" "BadNumber.__init__" s_BadNumber) rfl
  obtain ⟨fd_BadRule, FD_BadRule⟩ := c.def_ 1 (d := mkI "BadRule" "BadRule.__init__" s_BadRule) rfl
  obtain ⟨fd_BadMode, FD_BadMode⟩ := c.def_ 2 (d := mkI "BadMode" "BadMode.__init__" s_BadMode) rfl
  obtain ⟨fd_BadPoint, FD_BadPoint⟩ := c.def_ 3 (d := mkI "BadPoint" "BadPoint.__init__" s_BadPoint) rfl
  obtain ⟨fd_BadNet, FD_BadNet⟩ := c.def_ 4 (d := mkI "BadNet" "BadNet.__init__" s_BadNet) rfl
  obtain ⟨fd_BadLoft, FD_BadLoft⟩ := c.def_ 5 (d := mkI "BadLoft" "BadLoft.__init__" s_BadLoft) rfl
  obtain ⟨fd_NotClosed, FD_NotClosed⟩ := c.def_ 6 (d := mkI "NotClosed" "NotClosed.__init__" s_NotClosed) rfl
  obtain ⟨fd_NotTwo, FD_NotTwo⟩ := c.def_ 7 (d := mkI "NotTwo" "NotTwo.__init__" s_NotTwo) rfl
  obtain ⟨fd_Twisted, FD_Twisted⟩ := c.def_ 8 (d := mkI "Twisted" "Twisted.__init__" s_Twisted) rfl
  obtain ⟨fd_Singular, FD_Singular⟩ := c.def_ 9 (d := mkI "Singular" "Singular.__init__" s_Singular) rfl
  obtain ⟨fd_BadHeights, FD_BadHeights⟩ := c.def_ 10 (d := mkI "BadHeights" "BadHeights.__init__" s_BadHeights) rfl
  obtain ⟨fd_BadSetup, FD_BadSetup⟩ := c.def_ 11 (d := mkI "BadSetup" "BadSetup.__init__" s_BadSetup) rfl
  obtain ⟨fd_BadLayers, FD_BadLayers⟩ := c.def_ 12 (d := mkI "BadLayers" "BadLayers.__init__" s_BadLayers) rfl
  obtain ⟨fd_NoPoint, FD_NoPoint⟩ := c.def_ 13 (d := mkI "NoPoint" "NoPoint.__init__" s_NoPoint) rfl
  obtain ⟨fd_Laid, FD_Laid⟩ := c.def_ 14 (d := mkI "Laid" "Laid.__init__" s_Laid) rfl
  obtain ⟨fd_NoProp, FD_NoProp⟩ := c.def_ 15 (d := mkI "NoProp" "NoProp.__init__" s_NoProp) rfl
  obtain ⟨fd_BadFilling, FD_BadFilling⟩ := c.def_ 16 (d := mkI "BadFilling" "BadFilling.__init__" s_BadFilling) rfl
  obtain ⟨fd_BadChooser, FD_BadChooser⟩ := c.def_ 17 (d := mkI "BadChooser" "BadChooser.__init__" s_BadChooser) rfl
  obtain ⟨fd_UnknownJob, FD_UnknownJob⟩ := c.def_ 18 (d := mkI "UnknownJob" "UnknownJob.__init__" s_UnknownJob) rfl
  obtain ⟨fd_NotReady, FD_NotReady⟩ := c.def_ 19 (d := mkI "NotReady" "NotReady.__init__" s_NotReady) rfl
  obtain ⟨fd_AllDone, FD_AllDone⟩ := c.def_ 20 (d := mkI "AllDone" "AllDone.__init__" s_AllDone) rfl
  obtain ⟨fd_BadIndex, FD_BadIndex⟩ := c.def_ 21 (d := mkI "BadIndex" "BadIndex.__init__" s_BadIndex) rfl
  obtain ⟨fd_NotOrder, FD_NotOrder⟩ := c.def_ 22 (d := mkI "NotOrder" "NotOrder.__init__" s_NotOrder) rfl
  obtain ⟨fd_Ring, FD_Ring⟩ := c.def_ 23 (d := mkI "Ring" "Ring.__init__" s_Ring) rfl
  obtain ⟨fd_BadRow, FD_BadRow⟩ := c.def_ 24 (d := mkI "BadRow" "BadRow.__init__" s_BadRow) rfl
  obtain ⟨fd_NoLayer, FD_NoLayer⟩ := c.def_ 25 (d := mkI "NoLayer" "NoLayer.__init__" s_NoLayer) rfl
  obtain ⟨fd_Touch, FD_Touch⟩ := c.def_ 26 (d := mkI "Touch" "Touch.__init__" s_Touch) rfl
  obtain ⟨fd_Hangs, FD_Hangs⟩ := c.def_ 27 (d := mkI "Hangs" "Hangs.__init__" s_Hangs) rfl
  obtain ⟨fd_Outside, FD_Outside⟩ := c.def_ 28 (d := mkI "Outside" "Outside.__init__" s_Outside) rfl
  obtain ⟨fd_Loses, FD_Loses⟩ := c.def_ 29 (d := mkI "Loses" "Loses.__init__" s_Loses) rfl
  obtain ⟨fd_BadText, FD_BadText⟩ := c.def_ 30 (d := mkI "BadText" "BadText.__init__" s_BadText) rfl
  obtain ⟨fd_bag, FD_bag⟩ := c.def_ 31 (d := mkD "_law_bag" (top 34)) rfl
  have F_bag : Fun K "_law_bag" "_law_bag" s_bag (He.ga K "_law_bag") fd_bag := fun_of FD_bag
  have bi_bag : ∀ (s : Shared) (us : List Value), us.length = ["_law_script"].length → BindsTo s fd_bag ⟨us, []⟩ ((["_law_script"] : List Str).zip us) := fun s us hl => by
    have b := FD_bag.bindsA (ps := ["_law_script"]) fun _ _ _ _ _ _ us hl => match us, hl with | [_], _ => rfl
    exact b s us hl
  have b_bag : Binds K fd_bag ["_law_script"] [] := F_bag.binds (ps := ["_law_script"]) fun _ _ _ _ _ _ us hl => match us, hl with | [_], _ => rfl
  obtain ⟨fd_draw, FD_draw⟩ := c.def_ 32 (d := mkD "_law_draw" (top 35)) rfl
  have F_draw : Fun K "_law_draw" "_law_draw" s_draw (He.ga K "_law_draw") fd_draw := fun_of FD_draw
  have bi_draw : ∀ (s : Shared) (us : List Value), us.length = ["_law_bag_here", "_law_many"].length → BindsTo s fd_draw ⟨us, []⟩ ((["_law_bag_here", "_law_many"] : List Str).zip us) := fun s us hl => by
    have b := FD_draw.bindsA (ps := ["_law_bag_here", "_law_many"]) fun _ _ _ _ _ _ us hl => match us, hl with | [_, _], _ => rfl
    exact b s us hl
  have b_draw : Binds K fd_draw ["_law_bag_here", "_law_many"] [] := F_draw.binds (ps := ["_law_bag_here", "_law_many"]) fun _ _ _ _ _ _ us hl => match us, hl with | [_, _], _ => rfl
  obtain ⟨fd_of, FD_of⟩ := c.def_ 33 (d := mkD "_law_of" (top 36)) rfl
  have F_of : Fun K "_law_of" "_law_of" s_of (He.ga K "_law_of") fd_of := fun_of FD_of
  have bi_of : ∀ (s : Shared) (us : List Value), us.length = ["_law_bag_here", "_law_things"].length → BindsTo s fd_of ⟨us, []⟩ ((["_law_bag_here", "_law_things"] : List Str).zip us) := fun s us hl => by
    have b := FD_of.bindsA (ps := ["_law_bag_here", "_law_things"]) fun _ _ _ _ _ _ us hl => match us, hl with | [_, _], _ => rfl
    exact b s us hl
  have b_of : Binds K fd_of ["_law_bag_here", "_law_things"] [] := F_of.binds (ps := ["_law_bag_here", "_law_things"]) fun _ _ _ _ _ _ us hl => match us, hl with | [_, _], _ => rfl
  obtain ⟨fd_mixed, FD_mixed⟩ := c.def_ 34 (d := mkD "_law_mixed" (top 37)) rfl
  have F_mixed : Fun K "_law_mixed" "_law_mixed" s_mixed (He.ga K "_law_mixed") fd_mixed := fun_of FD_mixed
  have bi_mixed : ∀ (s : Shared) (us : List Value), us.length = ["_law_bag_here", "_law_things"].length → BindsTo s fd_mixed ⟨us, []⟩ ((["_law_bag_here", "_law_things"] : List Str).zip us) := fun s us hl => by
    have b := FD_mixed.bindsA (ps := ["_law_bag_here", "_law_things"]) fun _ _ _ _ _ _ us hl => match us, hl with | [_, _], _ => rfl
    exact b s us hl
  have b_mixed : Binds K fd_mixed ["_law_bag_here", "_law_things"] [] := F_mixed.binds (ps := ["_law_bag_here", "_law_things"]) fun _ _ _ _ _ _ us hl => match us, hl with | [_, _], _ => rfl
  obtain ⟨fd_like, FD_like⟩ := c.def_ 35 (d := mkD "_law_like" (top 38)) rfl
  have F_like : Fun K "_law_like" "_law_like" s_like (He.ga K "_law_like") fd_like := fun_of FD_like
  have bi_like : ∀ (s : Shared) (us : List Value), us.length = ["_law_found", "_law_due"].length → BindsTo s fd_like ⟨us, []⟩ ((["_law_found", "_law_due"] : List Str).zip us) := fun s us hl => by
    have b := FD_like.bindsA (ps := ["_law_found", "_law_due"]) fun _ _ _ _ _ _ us hl => match us, hl with | [_, _], _ => rfl
    exact b s us hl
  have b_like : Binds K fd_like ["_law_found", "_law_due"] [] := F_like.binds (ps := ["_law_found", "_law_due"]) fun _ _ _ _ _ _ us hl => match us, hl with | [_, _], _ => rfl
  obtain ⟨fd_value, FD_value⟩ := c.def_ 36 (d := mkD "_law_value" (top 39)) rfl
  have F_value : Fun K "_law_value" "_law_value" s_value (He.ga K "_law_value") fd_value := fun_of FD_value
  have bi_value : ∀ (s : Shared) (us : List Value), us.length = ["_law_bag_here", "_law_deep"].length → BindsTo s fd_value ⟨us, []⟩ ((["_law_bag_here", "_law_deep"] : List Str).zip us) := fun s us hl => by
    have b := FD_value.bindsA (ps := ["_law_bag_here", "_law_deep"]) fun _ _ _ _ _ _ us hl => match us, hl with | [_, _], _ => rfl
    exact b s us hl
  have b_value : Binds K fd_value ["_law_bag_here", "_law_deep"] [] := F_value.binds (ps := ["_law_bag_here", "_law_deep"]) fun _ _ _ _ _ _ us hl => match us, hl with | [_, _], _ => rfl
  obtain ⟨fd_kind, FD_kind⟩ := c.def_ 37 (d := mkD "_law_kind" (top 40)) rfl
  have F_kind : Fun K "_law_kind" "_law_kind" s_kind (He.ga K "_law_kind") fd_kind := fun_of FD_kind
  have bi_kind : ∀ (s : Shared) (us : List Value), us.length = ["_law_bag_here", "_law_kind_here"].length → BindsTo s fd_kind ⟨us, []⟩ ((["_law_bag_here", "_law_kind_here"] : List Str).zip us) := fun s us hl => by
    have b := FD_kind.bindsA (ps := ["_law_bag_here", "_law_kind_here"]) fun _ _ _ _ _ _ us hl => match us, hl with | [_, _], _ => rfl
    exact b s us hl
  have b_kind : Binds K fd_kind ["_law_bag_here", "_law_kind_here"] [] := F_kind.binds (ps := ["_law_bag_here", "_law_kind_here"]) fun _ _ _ _ _ _ us hl => match us, hl with | [_, _], _ => rfl
  obtain ⟨fd_kinds, FD_kinds⟩ := c.def_ 38 (d := mkD "_law_kinds" (top 41)) rfl
  have F_kinds : Fun K "_law_kinds" "_law_kinds" s_kinds (He.ga K "_law_kinds") fd_kinds := fun_of FD_kinds
  have bi_kinds : ∀ (s : Shared) (us : List Value), us.length = ["_law_at"].length → BindsTo s fd_kinds ⟨us, []⟩ ((["_law_at"] : List Str).zip us) := fun s us hl => by
    have b := FD_kinds.bindsA (ps := ["_law_at"]) fun _ _ _ _ _ _ us hl => match us, hl with | [_], _ => rfl
    exact b s us hl
  have b_kinds : Binds K fd_kinds ["_law_at"] [] := F_kinds.binds (ps := ["_law_at"]) fun _ _ _ _ _ _ us hl => match us, hl with | [_], _ => rfl
  obtain ⟨fd_classes, FD_classes⟩ := c.def_ 39 (d := mkD "_law_classes" (top 42)) rfl
  have F_classes : Fun K "_law_classes" "_law_classes" s_classes (He.ga K "_law_classes") fd_classes := fun_of FD_classes
  have bi_classes : ∀ (s : Shared) (us : List Value), us.length = ["_law_error"].length → BindsTo s fd_classes ⟨us, []⟩ ((["_law_error"] : List Str).zip us) := fun s us hl => by
    have b := FD_classes.bindsA (ps := ["_law_error"]) fun _ _ _ _ _ _ us hl => match us, hl with | [_], _ => rfl
    exact b s us hl
  have b_classes : Binds K fd_classes ["_law_error"] [] := F_classes.binds (ps := ["_law_error"]) fun _ _ _ _ _ _ us hl => match us, hl with | [_], _ => rfl
  obtain ⟨fd_low, FD_low⟩ := c.def_ 40 (d := mkD "_law_low_made" (top 43)) rfl
  have F_low : Fun K "_law_low_made" "_law_low_made" s_low (He.ga K "_law_low_made") fd_low := fun_of FD_low
  have bi_low : ∀ (s : Shared) (us : List Value), us.length = ["_law_at", "_law_one", "_law_two", "_law_way"].length → BindsTo s fd_low ⟨us, []⟩ ((["_law_at", "_law_one", "_law_two", "_law_way"] : List Str).zip us) := fun s us hl => by
    have b := FD_low.bindsA (ps := ["_law_at", "_law_one", "_law_two", "_law_way"]) fun _ _ _ _ _ _ us hl => match us, hl with | [_, _, _, _], _ => rfl
    exact b s us hl
  have b_low : Binds K fd_low ["_law_at", "_law_one", "_law_two", "_law_way"] [] := F_low.binds (ps := ["_law_at", "_law_one", "_law_two", "_law_way"]) fun _ _ _ _ _ _ us hl => match us, hl with | [_, _, _, _], _ => rfl
  obtain ⟨fd_middle, FD_middle⟩ := c.def_ 41 (d := mkD "_law_middle_made" (top 44)) rfl
  have F_middle : Fun K "_law_middle_made" "_law_middle_made" s_middle (He.ga K "_law_middle_made") fd_middle := fun_of FD_middle
  have bi_middle : ∀ (s : Shared) (us : List Value), us.length = ["_law_at", "_law_one", "_law_two", "_law_way"].length → BindsTo s fd_middle ⟨us, []⟩ ((["_law_at", "_law_one", "_law_two", "_law_way"] : List Str).zip us) := fun s us hl => by
    have b := FD_middle.bindsA (ps := ["_law_at", "_law_one", "_law_two", "_law_way"]) fun _ _ _ _ _ _ us hl => match us, hl with | [_, _, _, _], _ => rfl
    exact b s us hl
  have b_middle : Binds K fd_middle ["_law_at", "_law_one", "_law_two", "_law_way"] [] := F_middle.binds (ps := ["_law_at", "_law_one", "_law_two", "_law_way"]) fun _ _ _ _ _ _ us hl => match us, hl with | [_, _, _, _], _ => rfl
  obtain ⟨fd_high, FD_high⟩ := c.def_ 42 (d := mkD "_law_high_made" (top 45)) rfl
  have F_high : Fun K "_law_high_made" "_law_high_made" s_high (He.ga K "_law_high_made") fd_high := fun_of FD_high
  have bi_high : ∀ (s : Shared) (us : List Value), us.length = ["_law_at", "_law_one", "_law_two", "_law_way"].length → BindsTo s fd_high ⟨us, []⟩ ((["_law_at", "_law_one", "_law_two", "_law_way"] : List Str).zip us) := fun s us hl => by
    have b := FD_high.bindsA (ps := ["_law_at", "_law_one", "_law_two", "_law_way"]) fun _ _ _ _ _ _ us hl => match us, hl with | [_, _, _, _], _ => rfl
    exact b s us hl
  have b_high : Binds K fd_high ["_law_at", "_law_one", "_law_two", "_law_way"] [] := F_high.binds (ps := ["_law_at", "_law_one", "_law_two", "_law_way"]) fun _ _ _ _ _ _ us hl => match us, hl with | [_, _, _, _], _ => rfl
  obtain ⟨fd_rl, FD_rl⟩ := c.def_ 43 (d := mkD "_law_raise_low" (top 46)) rfl
  have F_rl : Fun K "_law_raise_low" "_law_raise_low" s_rl (He.ga K "_law_raise_low") fd_rl := fun_of FD_rl
  have bi_rl : ∀ (s : Shared) (us : List Value), us.length = ["_law_at", "_law_one", "_law_two"].length → BindsTo s fd_rl ⟨us, []⟩ ((["_law_at", "_law_one", "_law_two"] : List Str).zip us) := fun s us hl => by
    have b := FD_rl.bindsA (ps := ["_law_at", "_law_one", "_law_two"]) fun _ _ _ _ _ _ us hl => match us, hl with | [_, _, _], _ => rfl
    exact b s us hl
  have b_rl : Binds K fd_rl ["_law_at", "_law_one", "_law_two"] [] := F_rl.binds (ps := ["_law_at", "_law_one", "_law_two"]) fun _ _ _ _ _ _ us hl => match us, hl with | [_, _, _], _ => rfl
  obtain ⟨fd_rh, FD_rh⟩ := c.def_ 44 (d := mkD "_law_raise_high" (top 47)) rfl
  have F_rh : Fun K "_law_raise_high" "_law_raise_high" s_rh (He.ga K "_law_raise_high") fd_rh := fun_of FD_rh
  have bi_rh : ∀ (s : Shared) (us : List Value), us.length = ["_law_at", "_law_one", "_law_two"].length → BindsTo s fd_rh ⟨us, []⟩ ((["_law_at", "_law_one", "_law_two"] : List Str).zip us) := fun s us hl => by
    have b := FD_rh.bindsA (ps := ["_law_at", "_law_one", "_law_two"]) fun _ _ _ _ _ _ us hl => match us, hl with | [_, _, _], _ => rfl
    exact b s us hl
  have b_rh : Binds K fd_rh ["_law_at", "_law_one", "_law_two"] [] := F_rh.binds (ps := ["_law_at", "_law_one", "_law_two"]) fun _ _ _ _ _ _ us hl => match us, hl with | [_, _, _], _ => rfl
  obtain ⟨fd_made, FD_made⟩ := c.def_ 45 (d := mkD "_law_made" (top 48)) rfl
  have F_made : Fun K "_law_made" "_law_made" s_made (He.ga K "_law_made") fd_made := fun_of FD_made
  have bi_made : ∀ (s : Shared) (us : List Value), us.length = ["_law_at", "_law_one", "_law_two", "_law_way"].length → BindsTo s fd_made ⟨us, []⟩ ((["_law_at", "_law_one", "_law_two", "_law_way"] : List Str).zip us) := fun s us hl => by
    have b := FD_made.bindsA (ps := ["_law_at", "_law_one", "_law_two", "_law_way"]) fun _ _ _ _ _ _ us hl => match us, hl with | [_, _, _, _], _ => rfl
    exact b s us hl
  have b_made : Binds K fd_made ["_law_at", "_law_one", "_law_two", "_law_way"] [] := F_made.binds (ps := ["_law_at", "_law_one", "_law_two", "_law_way"]) fun _ _ _ _ _ _ us hl => match us, hl with | [_, _, _, _], _ => rfl
  obtain ⟨fd_caught, FD_caught⟩ := c.def_ 46 (d := mkD "_law_caught" (top 49)) rfl
  have F_caught : Fun K "_law_caught" "_law_caught" s_caught (He.ga K "_law_caught") fd_caught := fun_of FD_caught
  have bi_caught : ∀ (s : Shared) (us : List Value), us.length = ["_law_at", "_law_one", "_law_two"].length → BindsTo s fd_caught ⟨us, []⟩ ((["_law_at", "_law_one", "_law_two"] : List Str).zip us) := fun s us hl => by
    have b := FD_caught.bindsA (ps := ["_law_at", "_law_one", "_law_two"]) fun _ _ _ _ _ _ us hl => match us, hl with | [_, _, _], _ => rfl
    exact b s us hl
  have b_caught : Binds K fd_caught ["_law_at", "_law_one", "_law_two"] [] := F_caught.binds (ps := ["_law_at", "_law_one", "_law_two"]) fun _ _ _ _ _ _ us hl => match us, hl with | [_, _, _], _ => rfl
  obtain ⟨fd_law, FD_law⟩ := c.def_ 47 (d := mkD "law" (top 50)) rfl
  have F_law : Fun K "law" "law" s_law (He.ga K "law") fd_law := fun_of FD_law
  have bi_law : ∀ (s : Shared) (us : List Value), us.length = ["_law_script"].length → BindsTo s fd_law ⟨us, []⟩ ((["_law_script"] : List Str).zip us) := fun s us hl => by
    have b := FD_law.bindsA (ps := ["_law_script"]) fun _ _ _ _ _ _ us hl => match us, hl with | [_], _ => rfl
    exact b s us hl
  have b_law : Binds K fd_law ["_law_script"] [] := F_law.binds (ps := ["_law_script"]) fun _ _ _ _ _ _ us hl => match us, hl with | [_], _ => rfl
  have e := hfa.symm.trans (glo "law" (by decide))
  cases e
  refine ⟨fd_law, fun s v => bi_law s [v] rfl, fun base kb gb => ?_⟩
  have A : All P w K mg base (He.ga K "Refused") (clL K) := by
    refine ⟨T, B, of_decide_eq_true x5, by unfold clL; rw [List.length_map]; rfl, ec, fun {i x ps} hx => ?_⟩
    have hi : i < 31 := (List.getElem?_eq_some_iff.mp hx).1
    have e1 := clL_at (K := K) hx
    have E := ec hx
    obtain ⟨_, i1, i2⟩ := clsB_ok X G (cl hx)
    rw [e1] at E ⊢
    have hk : i = 0 ∨ i = 1 ∨ i = 2 ∨ i = 3 ∨ i = 4 ∨ i = 5 ∨ i = 6 ∨ i = 7 ∨ i = 8 ∨ i = 9 ∨ i = 10 ∨ i = 11 ∨ i = 12 ∨ i = 13 ∨ i = 14 ∨ i = 15 ∨ i = 16 ∨ i = 17 ∨ i = 18 ∨ i = 19 ∨ i = 20 ∨ i = 21 ∨ i = 22 ∨ i = 23 ∨ i = 24 ∨ i = 25 ∨ i = 26 ∨ i = 27 ∨ i = 28 ∨ i = 29 ∨ i = 30 := by omega
    rcases hk with rfl | rfl | rfl | rfl | rfl | rfl | rfl | rfl | rfl | rfl | rfl | rfl | rfl | rfl | rfl | rfl | rfl | rfl | rfl | rfl | rfl | rfl | rfl | rfl | rfl | rfl | rfl | rfl | rfl | rfl | rfl
    · have z : some (("BadNumber" : Str), (["value"] : List Str)) = some (x, ps) := hx
      cases z
      have F : Fun K "__init__" "BadNumber.__init__" s_BadNumber (He.fAd K ("BadNumber", some "__init__")) fd_BadNumber := fun_of FD_BadNumber
      exact ⟨_, fd_BadNumber, ⟨E.oex, i1, i2⟩, in_BadNumber F T E, bd_BadNumber F⟩
    · have z : some (("BadRule" : Str), (["rule"] : List Str)) = some (x, ps) := hx
      cases z
      have F : Fun K "__init__" "BadRule.__init__" s_BadRule (He.fAd K ("BadRule", some "__init__")) fd_BadRule := fun_of FD_BadRule
      exact ⟨_, fd_BadRule, ⟨E.oex, i1, i2⟩, in_BadRule F T E, bd_BadRule F⟩
    · have z : some (("BadMode" : Str), (["mode"] : List Str)) = some (x, ps) := hx
      cases z
      have F : Fun K "__init__" "BadMode.__init__" s_BadMode (He.fAd K ("BadMode", some "__init__")) fd_BadMode := fun_of FD_BadMode
      exact ⟨_, fd_BadMode, ⟨E.oex, i1, i2⟩, in_BadMode F T E, bd_BadMode F⟩
    · have z : some (("BadPoint" : Str), (["point"] : List Str)) = some (x, ps) := hx
      cases z
      have F : Fun K "__init__" "BadPoint.__init__" s_BadPoint (He.fAd K ("BadPoint", some "__init__")) fd_BadPoint := fun_of FD_BadPoint
      exact ⟨_, fd_BadPoint, ⟨E.oex, i1, i2⟩, in_BadPoint F T E, bd_BadPoint F⟩
    · have z : some (("BadNet" : Str), (["word", "index"] : List Str)) = some (x, ps) := hx
      cases z
      have F : Fun K "__init__" "BadNet.__init__" s_BadNet (He.fAd K ("BadNet", some "__init__")) fd_BadNet := fun_of FD_BadNet
      exact ⟨_, fd_BadNet, ⟨E.oex, i1, i2⟩, in_BadNet F T E, bd_BadNet F⟩
    · have z : some (("BadLoft" : Str), ([] : List Str)) = some (x, ps) := hx
      cases z
      have F : Fun K "__init__" "BadLoft.__init__" s_BadLoft (He.fAd K ("BadLoft", some "__init__")) fd_BadLoft := fun_of FD_BadLoft
      exact ⟨_, fd_BadLoft, ⟨E.oex, i1, i2⟩, in_BadLoft F T E, bd_BadLoft F⟩
    · have z : some (("NotClosed" : Str), (["edges"] : List Str)) = some (x, ps) := hx
      cases z
      have F : Fun K "__init__" "NotClosed.__init__" s_NotClosed (He.fAd K ("NotClosed", some "__init__")) fd_NotClosed := fun_of FD_NotClosed
      exact ⟨_, fd_NotClosed, ⟨E.oex, i1, i2⟩, in_NotClosed F T E, bd_NotClosed F⟩
    · have z : some (("NotTwo" : Str), (["edge"] : List Str)) = some (x, ps) := hx
      cases z
      have F : Fun K "__init__" "NotTwo.__init__" s_NotTwo (He.fAd K ("NotTwo", some "__init__")) fd_NotTwo := fun_of FD_NotTwo
      exact ⟨_, fd_NotTwo, ⟨E.oex, i1, i2⟩, in_NotTwo F T E, bd_NotTwo F⟩
    · have z : some (("Twisted" : Str), (["faces"] : List Str)) = some (x, ps) := hx
      cases z
      have F : Fun K "__init__" "Twisted.__init__" s_Twisted (He.fAd K ("Twisted", some "__init__")) fd_Twisted := fun_of FD_Twisted
      exact ⟨_, fd_Twisted, ⟨E.oex, i1, i2⟩, in_Twisted F T E, bd_Twisted F⟩
    · have z : some (("Singular" : Str), ([] : List Str)) = some (x, ps) := hx
      cases z
      have F : Fun K "__init__" "Singular.__init__" s_Singular (He.fAd K ("Singular", some "__init__")) fd_Singular := fun_of FD_Singular
      exact ⟨_, fd_Singular, ⟨E.oex, i1, i2⟩, in_Singular F T E, bd_Singular F⟩
    · have z : some (("BadHeights" : Str), ([] : List Str)) = some (x, ps) := hx
      cases z
      have F : Fun K "__init__" "BadHeights.__init__" s_BadHeights (He.fAd K ("BadHeights", some "__init__")) fd_BadHeights := fun_of FD_BadHeights
      exact ⟨_, fd_BadHeights, ⟨E.oex, i1, i2⟩, in_BadHeights F T E, bd_BadHeights F⟩
    · have z : some (("BadSetup" : Str), (["word"] : List Str)) = some (x, ps) := hx
      cases z
      have F : Fun K "__init__" "BadSetup.__init__" s_BadSetup (He.fAd K ("BadSetup", some "__init__")) fd_BadSetup := fun_of FD_BadSetup
      exact ⟨_, fd_BadSetup, ⟨E.oex, i1, i2⟩, in_BadSetup F T E, bd_BadSetup F⟩
    · have z : some (("BadLayers" : Str), (["layer"] : List Str)) = some (x, ps) := hx
      cases z
      have F : Fun K "__init__" "BadLayers.__init__" s_BadLayers (He.fAd K ("BadLayers", some "__init__")) fd_BadLayers := fun_of FD_BadLayers
      exact ⟨_, fd_BadLayers, ⟨E.oex, i1, i2⟩, in_BadLayers F T E, bd_BadLayers F⟩
    · have z : some (("NoPoint" : Str), (["layer", "point"] : List Str)) = some (x, ps) := hx
      cases z
      have F : Fun K "__init__" "NoPoint.__init__" s_NoPoint (He.fAd K ("NoPoint", some "__init__")) fd_NoPoint := fun_of FD_NoPoint
      exact ⟨_, fd_NoPoint, ⟨E.oex, i1, i2⟩, in_NoPoint F T E, bd_NoPoint F⟩
    · have z : some (("Laid" : Str), (["layer", "point"] : List Str)) = some (x, ps) := hx
      cases z
      have F : Fun K "__init__" "Laid.__init__" s_Laid (He.fAd K ("Laid", some "__init__")) fd_Laid := fun_of FD_Laid
      exact ⟨_, fd_Laid, ⟨E.oex, i1, i2⟩, in_Laid F T E, bd_Laid F⟩
    · have z : some (("NoProp" : Str), (["layer", "point"] : List Str)) = some (x, ps) := hx
      cases z
      have F : Fun K "__init__" "NoProp.__init__" s_NoProp (He.fAd K ("NoProp", some "__init__")) fd_NoProp := fun_of FD_NoProp
      exact ⟨_, fd_NoProp, ⟨E.oex, i1, i2⟩, in_NoProp F T E, bd_NoProp F⟩
    · have z : some (("BadFilling" : Str), (["filling"] : List Str)) = some (x, ps) := hx
      cases z
      have F : Fun K "__init__" "BadFilling.__init__" s_BadFilling (He.fAd K ("BadFilling", some "__init__")) fd_BadFilling := fun_of FD_BadFilling
      exact ⟨_, fd_BadFilling, ⟨E.oex, i1, i2⟩, in_BadFilling F T E, bd_BadFilling F⟩
    · have z : some (("BadChooser" : Str), (["chooser"] : List Str)) = some (x, ps) := hx
      cases z
      have F : Fun K "__init__" "BadChooser.__init__" s_BadChooser (He.fAd K ("BadChooser", some "__init__")) fd_BadChooser := fun_of FD_BadChooser
      exact ⟨_, fd_BadChooser, ⟨E.oex, i1, i2⟩, in_BadChooser F T E, bd_BadChooser F⟩
    · have z : some (("UnknownJob" : Str), (["number"] : List Str)) = some (x, ps) := hx
      cases z
      have F : Fun K "__init__" "UnknownJob.__init__" s_UnknownJob (He.fAd K ("UnknownJob", some "__init__")) fd_UnknownJob := fun_of FD_UnknownJob
      exact ⟨_, fd_UnknownJob, ⟨E.oex, i1, i2⟩, in_UnknownJob F T E, bd_UnknownJob F⟩
    · have z : some (("NotReady" : Str), (["number"] : List Str)) = some (x, ps) := hx
      cases z
      have F : Fun K "__init__" "NotReady.__init__" s_NotReady (He.fAd K ("NotReady", some "__init__")) fd_NotReady := fun_of FD_NotReady
      exact ⟨_, fd_NotReady, ⟨E.oex, i1, i2⟩, in_NotReady F T E, bd_NotReady F⟩
    · have z : some (("AllDone" : Str), ([] : List Str)) = some (x, ps) := hx
      cases z
      have F : Fun K "__init__" "AllDone.__init__" s_AllDone (He.fAd K ("AllDone", some "__init__")) fd_AllDone := fun_of FD_AllDone
      exact ⟨_, fd_AllDone, ⟨E.oex, i1, i2⟩, in_AllDone F T E, bd_AllDone F⟩
    · have z : some (("BadIndex" : Str), (["index"] : List Str)) = some (x, ps) := hx
      cases z
      have F : Fun K "__init__" "BadIndex.__init__" s_BadIndex (He.fAd K ("BadIndex", some "__init__")) fd_BadIndex := fun_of FD_BadIndex
      exact ⟨_, fd_BadIndex, ⟨E.oex, i1, i2⟩, in_BadIndex F T E, bd_BadIndex F⟩
    · have z : some (("NotOrder" : Str), ([] : List Str)) = some (x, ps) := hx
      cases z
      have F : Fun K "__init__" "NotOrder.__init__" s_NotOrder (He.fAd K ("NotOrder", some "__init__")) fd_NotOrder := fun_of FD_NotOrder
      exact ⟨_, fd_NotOrder, ⟨E.oex, i1, i2⟩, in_NotOrder F T E, bd_NotOrder F⟩
    · have z : some (("Ring" : Str), (["bodies"] : List Str)) = some (x, ps) := hx
      cases z
      have F : Fun K "__init__" "Ring.__init__" s_Ring (He.fAd K ("Ring", some "__init__")) fd_Ring := fun_of FD_Ring
      exact ⟨_, fd_Ring, ⟨E.oex, i1, i2⟩, in_Ring F T E, bd_Ring F⟩
    · have z : some (("BadRow" : Str), (["row"] : List Str)) = some (x, ps) := hx
      cases z
      have F : Fun K "__init__" "BadRow.__init__" s_BadRow (He.fAd K ("BadRow", some "__init__")) fd_BadRow := fun_of FD_BadRow
      exact ⟨_, fd_BadRow, ⟨E.oex, i1, i2⟩, in_BadRow F T E, bd_BadRow F⟩
    · have z : some (("NoLayer" : Str), (["height"] : List Str)) = some (x, ps) := hx
      cases z
      have F : Fun K "__init__" "NoLayer.__init__" s_NoLayer (He.fAd K ("NoLayer", some "__init__")) fd_NoLayer := fun_of FD_NoLayer
      exact ⟨_, fd_NoLayer, ⟨E.oex, i1, i2⟩, in_NoLayer F T E, bd_NoLayer F⟩
    · have z : some (("Touch" : Str), (["part", "layer"] : List Str)) = some (x, ps) := hx
      cases z
      have F : Fun K "__init__" "Touch.__init__" s_Touch (He.fAd K ("Touch", some "__init__")) fd_Touch := fun_of FD_Touch
      exact ⟨_, fd_Touch, ⟨E.oex, i1, i2⟩, in_Touch F T E, bd_Touch F⟩
    · have z : some (("Hangs" : Str), (["point"] : List Str)) = some (x, ps) := hx
      cases z
      have F : Fun K "__init__" "Hangs.__init__" s_Hangs (He.fAd K ("Hangs", some "__init__")) fd_Hangs := fun_of FD_Hangs
      exact ⟨_, fd_Hangs, ⟨E.oex, i1, i2⟩, in_Hangs F T E, bd_Hangs F⟩
    · have z : some (("Outside" : Str), (["point"] : List Str)) = some (x, ps) := hx
      cases z
      have F : Fun K "__init__" "Outside.__init__" s_Outside (He.fAd K ("Outside", some "__init__")) fd_Outside := fun_of FD_Outside
      exact ⟨_, fd_Outside, ⟨E.oex, i1, i2⟩, in_Outside F T E, bd_Outside F⟩
    · have z : some (("Loses" : Str), (["layer"] : List Str)) = some (x, ps) := hx
      cases z
      have F : Fun K "__init__" "Loses.__init__" s_Loses (He.fAd K ("Loses", some "__init__")) fd_Loses := fun_of FD_Loses
      exact ⟨_, fd_Loses, ⟨E.oex, i1, i2⟩, in_Loses F T E, bd_Loses F⟩
    · have z : some (("BadText" : Str), (["line", "why"] : List Str)) = some (x, ps) := hx
      cases z
      have F : Fun K "__init__" "BadText.__init__" s_BadText (He.fAd K ("BadText", some "__init__")) fd_BadText := fun_of FD_BadText
      exact ⟨_, fd_BadText, ⟨E.oex, i1, i2⟩, in_BadText F T E, bd_BadText F⟩
  have D_draw : Df P w K mg base 1 "_law_draw" _ ["_law_bag_here", "_law_many"] spDraw := ⟨glo _ (by decide), F_draw.kp, _, ok_draw F_draw B, b_draw⟩
  have D_of : Df P w K mg base 2 "_law_of" _ ["_law_bag_here", "_law_things"] spOf := ⟨glo _ (by decide), F_of.kp, _, ok_of F_of B D_draw, b_of⟩
  have D_mixed : Df P w K mg base 2 "_law_mixed" _ ["_law_bag_here", "_law_things"] spMixed := ⟨glo _ (by decide), F_mixed.kp, _, ok_mixed F_mixed B D_draw, b_mixed⟩
  have D_bag : Df P w K mg base 1 "_law_bag" _ ["_law_script"] (spBag K) := ⟨glo _ (by decide), F_bag.kp, _, ok_bag F_bag B, b_bag⟩
  have D_v2 : Df P w K mg base 3 "_law_value" _ ["_law_bag_here", "_law_deep"] (spValue 2 1) := ⟨glo _ (by decide), F_value.kp, _, ok_value2 F_value B D_draw D_of, b_value⟩
  have D_v1 : Df P w K mg base 4 "_law_value" _ ["_law_bag_here", "_law_deep"] (spValue 1 2) := ⟨glo _ (by decide), F_value.kp, _, ok_value1 (d := 1) (n := 1) (k := 3) (by decide) (by decide) (fun z => by cases z) (by decide) (by decide) F_value B D_draw D_of D_v2, b_value⟩
  have D_v0 : Df P w K mg base 5 "_law_value" _ ["_law_bag_here", "_law_deep"] (spValue 0 3) := ⟨glo _ (by decide), F_value.kp, _, ok_value1 (d := 0) (n := 2) (k := 4) (by decide) (by decide) (fun _ => by decide) (by decide) (by decide) F_value B D_draw D_of D_v1, b_value⟩
  have D_ratio : Df P w K mg base 3 "_law_kind" _ ["_law_bag_here", "_law_kind_here"] spRatio := ⟨glo _ (by decide), F_kind.kp, _, ok_ratio F_kind B D_draw D_of, b_kind⟩
  have D_kind : Df P w K mg base 6 "_law_kind" _ ["_law_bag_here", "_law_kind_here"] spKind := ⟨glo _ (by decide), F_kind.kp, _, ok_kind F_kind B D_draw D_of D_ratio D_v0, b_kind⟩
  have D_kinds : Df P w K mg base 1 "_law_kinds" _ ["_law_at"] spKinds := ⟨glo _ (by decide), F_kinds.kp, _, ok_kinds F_kinds B, b_kinds⟩
  have D_l0 : Df P w K mg base 1 "_law_like" _ ["_law_found", "_law_due"] (spLike 0) := ⟨glo _ (by decide), F_like.kp, _, ok_like0 F_like B, b_like⟩
  have D_l1 : Df P w K mg base 2 "_law_like" _ ["_law_found", "_law_due"] (spLike 1) := ⟨glo _ (by decide), F_like.kp, _, ok_like (n := 0) (k := 1) F_like B D_l0, b_like⟩
  have D_l2 : Df P w K mg base 3 "_law_like" _ ["_law_found", "_law_due"] (spLike 2) := ⟨glo _ (by decide), F_like.kp, _, ok_like (n := 1) (k := 2) F_like B D_l1, b_like⟩
  have D_l3 : Df P w K mg base 4 "_law_like" _ ["_law_found", "_law_due"] (spLike 3) := ⟨glo _ (by decide), F_like.kp, _, ok_like (n := 2) (k := 3) F_like B D_l2, b_like⟩
  have D_l4 : Df P w K mg base 5 "_law_like" _ ["_law_found", "_law_due"] (spLike 4) := ⟨glo _ (by decide), F_like.kp, _, ok_like (n := 3) (k := 4) F_like B D_l3, b_like⟩
  have D_classes : Df P w K mg base 1 "_law_classes" _ ["_law_error"] (spClasses (clL K)) := ⟨glo _ (by decide), F_classes.kp, _, ok_classes F_classes A, b_classes⟩
  have D_low : Df P w K mg base 3 "_law_low_made" _ ["_law_at", "_law_one", "_law_two", "_law_way"] (spPart (clL K) 0 10) := ⟨glo _ (by decide), F_low.kp, _, ok_low F_low A, b_low⟩
  have D_middle : Df P w K mg base 3 "_law_middle_made" _ ["_law_at", "_law_one", "_law_two", "_law_way"] (spPart (clL K) 11 20) := ⟨glo _ (by decide), F_middle.kp, _, ok_middle F_middle A, b_middle⟩
  have D_high : Df P w K mg base 3 "_law_high_made" _ ["_law_at", "_law_one", "_law_two", "_law_way"] (spPart (clL K) 21 30) := ⟨glo _ (by decide), F_high.kp, _, ok_high F_high A, b_high⟩
  have D_made : Df P w K mg base 4 "_law_made" _ ["_law_at", "_law_one", "_law_two", "_law_way"] (spMade (clL K)) := ⟨glo _ (by decide), F_made.kp, _, ok_made F_made D_low D_middle D_high, b_made⟩
  have D_caught : Df P w K mg base 4 "_law_caught" _ ["_law_at", "_law_one", "_law_two"] spCaught := ⟨glo _ (by decide), F_caught.kp, _, ok_caught F_caught A (glo "_law_raise_low" (by decide)) F_rl.kp (glo "_law_raise_high" (by decide)) F_rh.kp (glo "_law_classes" (by decide)) F_classes.kp
    ⟨_, ok_rl F_rl A, b_rl⟩ ⟨_, ok_rh F_rh A, b_rh⟩ ⟨_, ok_classesP F_classes A, b_classes⟩, b_caught⟩
  exact ok_law F_law A D_bag D_mixed D_kinds D_kind D_draw D_made D_l4 D_classes D_caught
end Ko
open PySem PySem.Calls PySem.W PyProof.Rows
theorem PySem.Challenge.cw_mostlaid_k00_errors_by_themselves_holds : PySem.Challenge.rw_mostlaid_k00_errors_by_themselves.Holds := by
  w_on; o_law
  refine HandSHeadRun.head_any (r := Ko.Rw) (q := view Ko.Rw.prog [50]) (H := Ko.hk) (ob := Ko.ob) (M := 9000) (loose := Ko.loose) (d := HandSHeadRun.topDef Ko.Rw.prog 50) (kwd := []) Ko.ob_eq
    (by kernel_rfl) (fun s => by kernel_rfl) Ko.run (by kernel_rfl) (by kernel_rfl) (by kernel_rfl) (by rfl) (by first | assumption | decide +kernel) (by decide +kernel) ⟨rfl, rfl, rfl, rfl, rfl, by decide +kernel⟩ ?hw ?hc
  case hw => w_witness2
  case hc =>
    refine L2.walk_ofE (l := PySem.Challenge.rw_mostlaid_k00_errors_by_themselves) (n := 63) (k := 8) (x := "_law_script") (CX := L2.CX0) rfl (by decide) (by kernel_rfl) ⟨rfl, by decide, by decide⟩ ?F (fun _ _ _ _ z => z)
    intro w mg fa h Y G hmg0
    obtain ⟨K, KX, x, c⟩ := Y
    have hmg : mg ("law" : PySem.Str) = some (.ref fa) := by
      have e : (HandSHeadRun.topDef Ko.Rw.prog 50).name = ("law" : PySem.Str) := by kernel_rfl
      rw [← e]
      exact hmg0
    obtain ⟨fd, hb, hF⟩ := Ko.facts (P := PySem.Challenge.rw_mostlaid_k00_errors_by_themselves.prog) (w := w) KX G hmg x c
    exact ⟨K, fd, Ko.spLaw K, KX, hb, fun H a ns hl _ hS => ⟨a, ns, rfl, hS, fun _ => rfl⟩, hF⟩

