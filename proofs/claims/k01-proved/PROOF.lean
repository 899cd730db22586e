import PyProof.Rows.All
import PySem.Challenge.RW_mostlaid_k01_exact_numbers
import Wide.All
import OpenK.AllK
import Wide.FinOn
import PyProof.EqAt
import PyProof.EqKinds
import PyProof.TupleCall
import HandS.ForMost
import HandS.Exc
import HandS.ExcOwn
import HandS.WordsExc
import HandS.ExcInit
import HandS.ExcIs
import HandS.ExcField
import HandS.ExcValue
import HandS.IsInst
import HandS.ClsMeth
import HandS.Defaults
import HandS.HotCalls
import HandS.Conv
import HandS.Zip
import HandS.Iter
import HandS.More
import HandS.Flow
import HandS.Gcd
import HandS.FStr
import HandS.Wide
import HandS.WideBits
import HandS.Style
import HandS.Sort
import HandS.SortInts
import HandS.Walk
import HandS.Deep
import HandS.StrMore
import HandS.Text
import HandS.Dict
import HandS.Codes
import HandS.ListItems
import HandS.Rev
import KE.KStateDown
import HandS.Head0
import HandS.Head1
import HandS.Head2
import HandS.Head3
import HandS.HeadEnd
import HandS.HeadHook1
import HandS.HeadHook2
import HandS.SortKw
import PyProof.WalkInts
import KE.KMinKey
import KE.KDictZip
import HandS.Zip0
import HandS.ExcCtx
set_option Elab.async false
set_option linter.all false
set_option maxRecDepth 100000
set_option maxHeartbeats 0
set_option exponentiation.threshold 10000
/-! Rules for errors of the program: made as values, by position and by name; their fields; isinstance; raised -/
namespace PySem
namespace KoX
open Builtin Builtin.ObjectAttr HandSPX
section
variable {M : Model} {A : Around} {E : Value → Shared → Prop} {hh : Heap} {gs : Array GenState} {dn : Drawn} {tn : Nat} {os : OsState}
variable {nm qn : Str} {C N : Addr} {bs bm bB : List Value} {hd : Bool} {sn : List Str} {sub : List Value} {ab : Bool} {col : Option Bool} {dd : Option Addr}
variable {k0 k1 k2 k3 k5 : Option Value} {B nid iid : String}
theorem chk_new (F : ExcBaseFacts B nid iid bB) (hT : ∀ Y : String, bm.contains (.type Y) = bB.contains (.type Y)) {args : List Value} {kw : List (Str × Value)}
    {Q : Unit → Shared → Prop} (hC : hh.get? C = some (excClassObj nm qn C N bs bm hd sn sub ab col dd k0 k1 k2 k3 k5 nid)) (hq : Q () ⟨hh, gs, dn, tn, os⟩) :
    wpAny M A (checkBuiltinCall nid ⟨.ref C :: args, kw⟩) Q E ⟨hh, gs, dn, tn, os⟩ := by
  have inB : (Value.ref C :: bm).contains (.type B) = true := by
    rw [List.contains_cons, hT, F.hasB, Bool.or_true]
  have star := F.noStar
  simp only [checkBuiltinCall, F.newSplit, F.newKind, F.newRow]
  repeat (first
    | refine wpAny_loadPart_at hC ?_
    | (refine wpAny_isSubtype_exc hC ?_; rw [inB])
    | refine wpAny_staticBase_exc hC ?_
    | refine wpAny_madeBy_exc hC ?_
    | simp only [bne_self_eq_false, Bool.false_eq_true, if_false]
    | wp_step)
  exact hq
end
section
variable {prog : Program} {w : World} {A : Around} {E : Value → Shared → Prop} {R : Result → Shared → Prop} {hh : Heap} {gs : Array GenState} {dn : Drawn} {tn : Nat} {os : OsState}
variable {nm qn : Str} {C N : Addr} {bs bm bB : List Value} {hd : Bool} {sn : List Str} {sub : List Value} {ab : Bool} {col : Option Bool} {dd : Option Addr}
variable {k0 k1 k2 k3 k5 : Option Value} {B nid iid : String}
theorem mk_new (F : ExcBaseFacts B nid iid bB) (hT : ∀ Y : String, bm.contains (.type Y) = bB.contains (.type Y)) {args : List Value} {kw : List (Str × Value)}
    (hC : hh.get? C = some (excClassObj nm qn C N bs bm hd sn sub ab col dd k0 k1 k2 k3 k5 nid))
    (hq : R (.ok (.ret (.ref (hh.objs.size + 1)))) ⟨(hh.push (W.kdv_tup args)).push (excO C hh.objs.size), gs, dn, tn, os⟩) (ha : args.length ≤ sizeLine) :
    codeAny (model prog w) A (.builtin nid ⟨.ref C :: args, kw⟩) R ⟨hh, gs, dn, tn, os⟩ := by
  have en := F.ends
  have inB : (Value.ref C :: bm).contains (.type B) = true := by
    rw [List.contains_cons, hT, F.hasB, Bool.or_true]
  have outA : (Value.ref C :: bm).contains (.type "AttributeError") = false := by
    rw [List.contains_cons, hT, F.noAttr]
    rfl
  have outN : (Value.ref C :: bm).contains (.type "NameError") = false := by
    rw [List.contains_cons, hT, F.noName]
    rfl
  refine codeAny_builtinAt F.entry (show wpAt _ _ _ (Builtin.«BaseException.__new__» _) _ _ _ from ?_)
  delta Builtin.«BaseException.__new__»
  refine wpAt_bind (show wpAt _ _ _ (stack >>= _) _ _ _ from wpAt_bind (wpAt_stack fun _ _ => wpAt_of_wpAny ?_))
  wp_walk
  refine wpAt_of_wpAny ?_
  rw [F.owner]
  repeat (first
    | with_reducible refine wpAny_madeHere_exc F.canon hC ?_
    | with_reducible refine wpAny_loadPart_at hC ?_
    | (with_reducible refine wpAny_isSubtype_exc hC ?_; first | rw [inB] | rw [outA] | rw [outN])
    | wp_step)
  show R _ _
  rw [Heap.size_push]
  exact hq
theorem mk_type (F : ExcBaseFacts B nid iid bB) (hT : ∀ Y : String, bm.contains (.type Y) = bB.contains (.type Y)) {args : List Value} {kw : List (Str × Value)} {fI : Addr}
    {Q : Fin → Shared → Prop} (hC : hh.get? C = some (excClassObj nm qn C N bs bm hd sn sub ab col dd k0 k1 k2 k3 k5 nid))
    (hi : W.Looks (model prog w) hh (typeLookup (.ref C) "__init__") (some (.ref fI))) (hb : ∀ self, W.Looks (model prog w) hh (bindSpecial (.ref fI) self) (.ref fI, [self]))
    (ha : args.length ≤ sizeLine)
    (hq : codeAny (model prog w) A (.call (.ref fI) ⟨.ref (hh.objs.size + 1) :: args, kw⟩)
      (fun r s' => match r with
        | .ok (.ret v) => v = .none ∧ Q (.done (.ret (.ref (hh.objs.size + 1)))) s'
        | .ok _ => False
        | .error e => E e s')
      ⟨(hh.push (W.kdv_tup args)).push (excO C hh.objs.size), gs, dn, tn, os⟩) :
    wpAny (model prog w) A (Builtin.«type.__call__» ⟨.ref C :: args, kw⟩) Q E ⟨hh, gs, dn, tn, os⟩ := by
  repeat (first
    | with_reducible refine wpAny_loadPart_at hC ?_
    | with_reducible refine wpAny_madeBy_exc hC ?_
    | wp_step)
  refine codeAny_call_builtin_code (Code.quiet_builtin _ F.quiet) (chk_new F hT hC ?_)
  refine mk_new F hT hC ?_ ha
  show wpAny _ _ _ _ _ _
  have kp : ∀ b o, hh.get? b = some o → ((hh.push (W.kdv_tup args)).push (excO C hh.objs.size)).get? b = some o := fun b o e =>
    Heap.get?_push_of_some _ (Heap.get?_push_of_some _ e)
  have hC2 := kp _ _ hC
  have at1 : ((hh.push (W.kdv_tup args)).push (excO C hh.objs.size)).get? (hh.objs.size + 1) = some (excO C hh.objs.size) := by
    heap_get
  have inC : (Value.ref C :: bm).contains (.ref C) = true := by
    simp
  have i1 := hi.keeps kp
  have b1 := (hb (.ref (hh.objs.size + 1))).keeps kp
  unfold isInstance
  repeat (first
    | with_reducible refine wpAny_loadPart_at at1 ?_
    | (with_reducible refine wpAny_isSubtype_exc hC2 ?_; rw [inC])
    | wp_step)
  refine (show wpAny _ _ (typeLookup (.ref C) _) _ _ _ from i1.at (wpAny_holding (wpAny_bind (b1.at (wpAny_bind (wpAny_call (codeAny_mono hq fun r s' z => ?_)))))))
  rcases r with e | (v | _ | _ | _)
  all_goals first | exact z | exact z.elim | skip
  obtain ⟨rfl, z⟩ := z
  first
    | (refine wpAny_pure (wpAny_pure ?_); exact z)
    | (wp_walk; exact z)
/-- the class of an error is called: its own __init__ runs upon the new object -/
theorem call_err (F : ExcBaseFacts B nid iid bB) (hT : ∀ Y : String, bm.contains (.type Y) = bB.contains (.type Y)) {args : List Value} {kw : List (Str × Value)} {fI : Addr}
    (hC : hh.get? C = some (excClassObj nm qn C N bs bm hd sn sub ab col dd k0 k1 k2 k3 k5 nid))
    (hi : W.Looks (model prog w) hh (typeLookup (.ref C) "__init__") (some (.ref fI))) (hb : ∀ self, W.Looks (model prog w) hh (bindSpecial (.ref fI) self) (.ref fI, [self]))
    (ha : args.length ≤ sizeLine)
    (hq : codeAny (model prog w) (A.under (.builtin "type.__call__" ⟨.ref C :: args, kw⟩)) (.call (.ref fI) ⟨.ref (hh.objs.size + 1) :: args, kw⟩) (W.InitBack (hh.objs.size + 1) R)
      ⟨(hh.push (W.kdv_tup args)).push (excO C hh.objs.size), gs, dn, tn, os⟩) :
    codeAny (model prog w) A (.call (.ref C) ⟨args, kw⟩) R ⟨hh, gs, dn, tn, os⟩ := by
  have f1 := tc_lookup
  have f2 := tc_bind (.ref C)
  have isT : (⟨hh, gs, dn, tn, os⟩ : Shared).TypeIs (.ref C) "type" := ⟨_, hC, rfl⟩
  refine codeAny_of_tree ?_
  show wpAny (model prog w) _ (callAny (.ref C) _) _ _ _
  repeat (any_goals (first
    | assumption
    | with_reducible refine wpAny_loadPart_at hC ?_
    | wp_step))
  refine ⟨rfl, ?_⟩
  refine codeAny_call_builtin_at (Code.quiet_builtin _ (by decide +kernel)) entry_typeCall (wpAny_check_type_call_sub hC (mk_type F hT hC hi hb ha ?_))
  refine codeAny_mono hq fun res st z => ?_
  rcases res with e | (v | _ | _ | _)
  all_goals exact z
end
end KoX
end PySem

namespace Ko
open PySem L2 PySem.Spec PyProof.Rows
abbrev Si := L2.St
/-- an error at a: its class, its fields (the newest first) -/
def Err (H : Hp) (a C : Addr) (fs : List (Str × V)) : Prop := (fs = [] ∧ H a = some (exo a C none)) ∨ ∃ d, d ≠ a ∧ H a = some (exo a C (some d)) ∧ H d = some (exd d fs)
theorem Err.same {H H' : Hp} {a C : Addr} {fs : List (Str × V)} (e : Err H a C fs) (s : Same H H') : Err H' a C fs := by
  rcases e with ⟨e, q⟩ | ⟨d, ne, q, r⟩
  · exact .inl ⟨e, s _ _ q⟩
  · exact .inr ⟨d, ne, s _ _ q, s _ _ r⟩
section
variable {X : Cx} {CX : CXT} {k n : Nat} {f C : Addr} {fd : FuncData} {ps ks : List Str} {sp : Sp} {x : Str} {p pos : Pos} {e : Expr} {es : List Expr} {kws : List Keyword}
variable {t tk : TA} {g : List Value → List Value → List Value} {gV : List V → List V → List V}
/-- what is asked of the class at C and its __init__ at f -/
structure Mkr (K : PySem.W.Frag) (C f : Addr) : Prop where
  cl : OexC K C
  ini : PySem.W.findIn K (.ref C) "__init__" = some (some (.ref f))
  fn : PySem.W.typeIn K (.ref f) = some (.type "function")
/-- C(.., k = v, ..) of an error's class, as a value -/
def tErr (C : Addr) (n m : Nat) (sp : Sp) (gV : List V → List V → List V) (t tk : TA) : TE := fun σ H Q => t σ H fun vs H1 => tk σ H1 fun zs H2 => vs.length = n ∧ zs.length = m ∧ n ≤ 1000 ∧
  ∀ a, H2 a = none → sp (gV (.ref a :: vs) zs) (upd H2 a (exo a C none)) (fun v H3 => v = .non ∧ Q (.ref a) H3) E0
theorem run_err {pins : List (Addr × Obj)} {σ : Si} {H : Hp} {s : Shared} {Q : VK} {us ws : List Value} {vs zs : List V} (M : Mkr X.K C f) (Fk : FnOk X.prog X.w X.K X.mg X.base CX0 k f fd ps sp)
    (hr : Room (k + 1) X.A) (hb : KBn X.K fd ps (n + 1) ks g gV) (I : Inv X pins σ H s) (r : Vals vs us) (rz : Vals zs ws) (l1 : vs.length = n) (l2 : zs.length = ks.length) (ln : n ≤ 1000)
    (h : ∀ a, H a = none → sp (gV (.ref a :: vs) zs) (upd H a (exo a C none)) (fun v H2 => v = .non ∧ Q (.ref a) H2) E0) :
    wpAny (model X.prog X.w) X.A (call (Value.ref C) us (ks.zip ws)) (EP X pins σ Q) X.xe s := by
  obtain ⟨nm, q, N, bs, bm, sn, sub, ab, col, dd, k0, k1, k2, k3, k5, hC, hbm⟩ := M.cl.cls
  obtain ⟨hp, g0, dr, tk, os⟩ := s
  have sz : hp.objs.size ≤ hp.objs.size + 1 := Nat.le_succ _
  have free : H (hp.objs.size + 1) = none := I.hok.fresh sz
  have kk : ∀ b o, hp.get? b = some o → ((hp.push (PySem.W.kdv_tup us)).push (PySem.HandSPX.excO C hp.objs.size)).get? b = some o := fun b o e =>
    Heap.get?_push_of_some _ (Heap.get?_push_of_some _ e)
  have at1 : ((hp.push (PySem.W.kdv_tup us)).push (PySem.HandSPX.excO C hp.objs.size)).get? (hp.objs.size + 1) = some (PySem.HandSPX.excO C hp.objs.size) := by
    heap_get
  have I2 : Inv X pins σ (upd H (hp.objs.size + 1) (exo (hp.objs.size + 1) C none)) ⟨(hp.push (PySem.W.kdv_tup us)).push (PySem.HandSPX.excO C hp.objs.size), g0, dr, tk, os⟩ :=
    I.laid (t' := tk) (o := exo (hp.objs.size + 1) C none) kk sz (exo_ok at1)
  have hq := h _ free
  have r2 := hb.rel (Paired.cons (show RelV (V.ref (hp.objs.size + 1)) (Value.ref (hp.objs.size + 1)) from rfl) r) rz
  have e1 : (Value.ref (hp.objs.size + 1) :: us).length = n + 1 := by
    rw [List.length_cons, ← Paired.length r, l1]
  have hz : us.length ≤ sizeLine := by
    rw [← r.length, sizeLine_eq]
    omega
  refine wpAny_call (PySem.KoX.call_err PySem.F.excBase_ValueError (fun Y => PySem.HandSPX.refsVE_contains Y bm hbm) (I.kIn _ _ hC) (PySem.W.looks_findIn I.kIn M.ini) (fun self => PySem.W.bind_fn I.kIn self M.fn) hz ?_)
  refine codeAny_mono (Fk.run _ X.stack _ _ ⟨Value.ref (hp.objs.size + 1) :: us, ks.zip ws⟩ (g (Value.ref (hp.objs.size + 1) :: us) ws) _ _ E0 (hr.make C us (ks.zip ws)) (I2.env0.make C us (ks.zip ws))
    (hb.to _ (Value.ref (hp.objs.size + 1) :: us) ws I2.kIn e1 (rz.length.symm.trans l2)) r2 hq) fun r s' hq' => ?_
  cases r with
  | error er => exact False.elim hq'
  | ok fl =>
    cases fl with
    | ret u =>
      obtain ⟨v, H4, I4, rv, ev, q4⟩ := I2.after hq'
      subst ev
      exact ⟨rv, V.ref (hp.objs.size + 1), H4, I4, rfl, q4⟩
    | next => exact (show False from hq').elim
    | brk => exact (show False from hq').elim
    | cont => exact (show False from hq').elim
theorem pe_errK (M : Mkr X.K C f) (Fk : FnOk X.prog X.w X.K X.mg X.base CX0 k f fd ps sp) (hr : Room (k + 1) X.A) (hg : Gl X x) (hm : X.mg x = some (.ref C)) (hb : KBn X.K fd ps (n + 1) ks g gV)
    (ha : PA X (e :: es) t) (hkw : PK X kws tk) (kwAll : (backToKw pos (keywordEach kws X.env)).all (·.1.isSome) = true := by rfl) (kwNms : (backToKw pos (keywordEach kws X.env)).filterMap (·.1) = ks := by rfl)
    (noDbg : (x == ("__debug__" : Str)) = false := by decide) (star1 : starEach (e :: es) X.env = (false, eval e X.env) :: starEach es X.env := by rfl)
    (plain : ((backTo pos (starEach (e :: es) X.env)).any (·.1) || (backToKw pos (keywordEach kws X.env)).any (·.1.isNone)) = false := by rfl) :
    PE X (.Call (.Name x p) (e :: es) kws pos) (tErr C n ks.length sp gV t tk) := by
  refine ⟨fun pins s σ H Q I h => wpAny_Call_Name_kw (ld_glob I hg hm ?_ noDbg)⟩
  refine PySem.W.callWith_KW (h₀ := X.base) I.ok.mod.kin M.cl.kC kwAll (thn (ha.run pos pins s σ H _ I h) fun us s1 hh => ?_) plain star1
  obtain ⟨vs, H1, I1, r, q⟩ := hh
  refine thn (hkw.run pos pins s1 σ H1 _ I1 q) fun ws s2 hh => ?_
  obtain ⟨zs, H2, I2, rz, l1, l2, ln, q2⟩ := hh
  refine ⟨I2.kIn, ?_⟩
  rw [kwNms]
  exact run_err M Fk hr hb I2 r rz l1 l2 ln q2
theorem pe_errK0 (M : Mkr X.K C f) (Fk : FnOk X.prog X.w X.K X.mg X.base CX0 k f fd ps sp) (hr : Room (k + 1) X.A) (hg : Gl X x) (hm : X.mg x = some (.ref C)) (hb : KBn X.K fd ps 1 ks g gV)
    (hkw : PK X kws tk) (kwAll : (backToKw pos (keywordEach kws X.env)).all (·.1.isSome) = true := by rfl) (kwNms : (backToKw pos (keywordEach kws X.env)).filterMap (·.1) = ks := by rfl)
    (noDbg : (x == ("__debug__" : Str)) = false := by decide)
    (plain : ((backTo pos (starEach [] X.env)).any (·.1) || (backToKw pos (keywordEach kws X.env)).any (·.1.isNone)) = false := by rfl) :
    PE X (.Call (.Name x p) [] kws pos) (tErr C 0 ks.length sp gV tNil tk) := by
  refine ⟨fun pins s σ H Q I h => wpAny_Call_Name_kw (ld_glob I hg hm ?_ noDbg)⟩
  refine PySem.W.callWith_KW0 (h₀ := X.base) I.ok.mod.kin M.cl.kC kwAll (thn (hkw.run pos pins s σ H _ I h) fun ws s2 hh => ?_) plain
  obtain ⟨zs, H2, I2, rz, l1, l2, ln, q2⟩ := hh
  refine ⟨I2.kIn, ?_⟩
  rw [kwNms]
  exact run_err (us := []) (vs := []) M Fk hr hb I2 .nil rz rfl l2 (Nat.zero_le _) q2
/-- C(e, ..) -/
theorem pe_errP (M : Mkr X.K C f) (Fk : FnOk X.prog X.w X.K X.mg X.base CX0 k f fd ps sp) (hr : Room (k + 1) X.A) (hg : Gl X x) (hm : X.mg x = some (.ref C)) (hb : KBn X.K fd ps (n + 1) [] g gV)
    (ha : PA X (e :: es) t) (noDbg : (x == ("__debug__" : Str)) = false := by decide) (star1 : starEach (e :: es) X.env = (false, eval e X.env) :: starEach es X.env := by rfl)
    (plain : (backTo pos (starEach es X.env)).any (·.1) = false := by rfl) :
    PE X (.Call (.Name x p) (e :: es) [] pos) (tErr C n 0 sp gV t tNil) := by
  refine ⟨fun pins s σ H Q I h => wpAny_Call_Name_kw (ld_glob I hg hm ?_ noDbg)⟩
  refine PySem.W.callWith_K (h₀ := X.base) I.ok.mod.kin M.cl.kC (thn (ha.run pos pins s σ H _ I h) fun us s1 hh => ?_) star1 plain
  obtain ⟨vs, H1, I1, r, l1, l2, ln, q⟩ := hh
  exact ⟨I1.kIn, run_err (ws := []) (zs := []) M Fk hr hb I1 r .nil l1 rfl ln q⟩
/-- C() -/
theorem pe_err0 (M : Mkr X.K C f) (Fk : FnOk X.prog X.w X.K X.mg X.base CX0 k f fd ps sp) (hr : Room (k + 1) X.A) (hg : Gl X x) (hm : X.mg x = some (.ref C)) (hb : KBn X.K fd ps 1 [] g gV)
    (noDbg : (x == ("__debug__" : Str)) = false := by decide) : PE X (.Call (.Name x p) [] [] pos) (tErr C 0 0 sp gV tNil tNil) := by
  refine ⟨fun pins s σ H Q I h => wpAny_Call_Name_kw (ld_glob I hg hm ?_ noDbg)⟩
  obtain ⟨l1, l2, ln, q⟩ := h
  exact PySem.W.callWith_K0 I.kIn M.cl.kC (run_err (us := []) (ws := []) (vs := []) (zs := []) M Fk hr hb I .nil .nil rfl rfl ln q)
/-- B.__init__(self, ..), B an own class that has the built-in __init__ -/
theorem pe_base {B : Addr} {mc : Value} {p1 p2 : Pos} {pl : Sem Bool} (hg : Gl X x) (hm : X.mg x = some (.ref B)) (r : ClX.CRead X.K B mc)
    (vB : PySem.W.findCls X.K (.ref B) mc "__init__" = some (.val (.builtin "ValueError.__init__"))) (ha : PA X (e :: es) t) (noDbg : (x == ("__debug__" : Str)) = false := by decide)
    (hc : eval (.Call (.Attribute (.Name x p1) "__init__" p2) (e :: es) [] pos) X.env = (do
      let ov ← eval (.Name x p1) X.env
      standAt p2.atName
      let (fn, self1) ← holding [ov] (getMethod ov "__init__" pl)
      callWith pos fn self1 (backTo pos (starEach (e :: es) X.env)) (backToKw pos (keywordEach [] X.env))) := by rfl)
    (star1 : starEach (e :: es) X.env = (false, eval e X.env) :: starEach es X.env := by rfl) (plain : (backTo pos (starEach es X.env)).any (·.1) = false := by rfl) :
    PE X (.Call (.Attribute (.Name x p1) "__init__" p2) (e :: es) [] pos) (tVeI X.K t) := by
  refine ⟨fun pins s σ H Q I h => PySem.W.methodCall_KW (ld_glob I hg hm ?_ noDbg) hc⟩
  refine PySem.W.method_cls I.kIn r.ga (PySem.W.cls_value I.kIn r.rd vB (by decide +kernel) ?_)
  show wpAny (model X.prog X.w) X.A (callWith pos (Value.builtin "ValueError.__init__") [] (backTo pos (starEach (e :: es) X.env)) []) _ _ _
  refine callWith_method1 (thn (ha.run pos pins _ σ H _ (I.tok _) h) fun us s1 hh => ?_) star1 plain
  obtain ⟨vs, H1, I1, r1, a, C, ws, ev, hl, T, ea, q⟩ := hh
  subst ev
  cases r1 with
  | @cons _ u0 _ ur ra rr =>
    obtain rfl : u0 = .ref a := ra
    refine oinit_ok T I1 ea ?_ fun s' J => ⟨.non, H1, J, rfl, q⟩
    rw [← Paired.length rr, sizeLine_eq]
    omega
end
end Ko

namespace PySem.KoX
open PySem PySem.W PySem.Calls PyProof.Rows PySem.Spec
section
variable {prog : Program} {w : World} {A : Around} {E : Value → Shared → Prop} {s : Shared} {K : Frag} {x D : Addr} {ox : Obj} {od : Option Obj}
theorem found_data {C : Addr} {name : Str} {a g : Value} (hc : (clsIn K C).isSome = true) (ha : findIn K (.ref C) name = some (some a)) (hg : specialIn K a "__get__" = some (some g))
    (ht : takesIn K a = some true) : findObj K C od name = some (.bind g a) := by
  obtain ⟨cd, e⟩ := Option.isSome_iff_exists.mp hc
  unfold findObj
  rw [e, Option.bind_some, ha, Option.bind_some]
  simp [hg, ht]
/-- e.__class__ of an error -/
theorem class_err {Q : Option Value → Shared → Prop} (T : L2.ExcC K D) (X : K.In s.heap) (I : InstAt s.heap x ox D od) (h : Q (some (.ref D)) { s with toks := s.toks + 1 }) :
    wpAny (model prog w) A (getAttr? (.ref x) "__class__") Q E s := by
  have hf : findObj K D od "__class__" = some (.bind (.builtin "getset_descriptor.__get__") (.builtin "object.__class__")) :=
    found_data (by obtain ⟨cd, hc, _⟩ := any_some T.hd; rw [hc]; rfl) T.ha T.hn T.ht
  obtain ⟨hp, g, d, t, os⟩ := s
  have T0 := I.type (M := model prog w)
  have T1 := looks_findIn (M := model prog w) X T.hg
  have T2 := looks_findIn (M := model prog w) X T.hk
  have T3 := looks_find (M := model prog w) X I hf
  have isE : Looks (model prog w) hp (isInstance (.ref x) (.type "BaseException")) true :=
    T0.andThen (looks_subIn X T.hs)
  have z0 : (false && onTheHeap (Value.builtin "BaseException.__getattribute__")) = false :=
    rfl
  have z2 : (Value.builtin "BaseException.__getattribute__" == Value.builtin "object.__getattribute__") = false :=
    by decide +kernel
  have z1 : (onTheHeap (Value.ref D) && Value.builtin "BaseException.__getattribute__" == Value.builtin "object.__getattribute__") = false := by
    rw [z2]
    rfl
  unfold getAttr?
  unfold getAttrBy? getAttrBy
  refine wpAny_bind (wpAny_mkText (wpAny_bind (wpAny_attempt (wpAny_holding (wpAny_bind (T0.at (wpAny_bind (T1.at ?_))))))))
  show wpAny (model prog w) _ (if (onTheHeap (Value.ref D) && Value.builtin "BaseException.__getattribute__" == Value.builtin "object.__getattribute__") = true then _ else _) _ _ _
  rw [z1, if_neg Bool.false_ne_true]
  unfold getAttrByItsOwn
  unfold hookBefore
  refine wpAny_bind ?_
  have onH : onTheHeap (Value.ref D) = true := rfl
  rw [if_pos onH]
  refine T2.at (wpAny_bind (wpAny_attempt (wpAny_holding ?_)))
  unfold callGetattribute
  rw [z0, if_neg Bool.false_ne_true]
  unfold boundAndCalled
  rw [PySem.F.excAttr_ValueError.ga.bind (Value.ref x)]
  refine wpAny_bind (wpAny_pure (show wpAny _ _ (call (.builtin "BaseException.__getattribute__") [.ref x, .str "__class__" t]) _ _ _ from
    wpAny_call (codeAny_call_builtin PySem.F.excAttr_ValueError.ga.plain PySem.F.entry_bexc_ga ?_)))
  refine @check_slot (model prog w) _ _ ⟨hp, g, d, t + 1, os⟩ "BaseException.__getattribute__" "BaseException" "__getattribute__" (.ref x) [.str "__class__" t] [] _ (by decide +kernel) (by decide +kernel)
    isE (PySem.F.args_bexc_ga (.ref x) (.str "__class__" t)) ?_
  delta Builtin.«object.__getattribute__»
  refine wpAny_bind (wpAny_of_eq (a := ((Value.ref x : Value), [Value.str "__class__" t])) (by
    first
      | rfl
      | (simp only [slotArgs]; rfl)) ?_)
  refine wpAny_bind (wpAny_pure (wpAny_bind (T0.at (wpAny_bind (T3.at ?_)))))
  show wpAny (model prog w) _ (holding [Value.builtin "object.__class__"] (call (.builtin "getset_descriptor.__get__") [.builtin "object.__class__", .ref x, .ref D]) >>= ret) _ _ _
  refine wpAny_bind (wpAny_holding (wpAny_call (class_get (s := ⟨hp, g, d, t + 1, os⟩) (ox := ox) (od := od) X I T.hm ?_)))
  refine wpAny_pure ?_
  show wpAny (model prog w) _ (handedOut (.ref D)) _ _ _
  rw [handedOut_of (rfl : handedIn (.ref D) = true)]
  first
    | (refine wpAny_pure (wpAny_pure ?_); exact h)
    | exact wpAny_pure h
    | (refine wpAny_pure (wpAny_bind (wpAny_pure (wpAny_pure ?_))); exact h)
theorem kit_err (T : L2.ExcC K D) : KitX K (.ref x) (.ref D) (fun h => InstAt h x ox D od) where
  ty := fun _ _ _ I => I.type
  it := fun _ _ X _ => by
    obtain ⟨cdD, hcD, _⟩ := any_some T.hd
    unfold clsIn at hcD
    split at hcD
    · rename_i c' d' cd' sl' ho
      intro A' Q' E' s' k q
      unfold isType loadHead
      refine wpAny_bind (wpAny_loadPart (k _ _ (X _ _ ho)) ?_)
      exact wpAny_pure q
    · cases hcD
  ne := fun hp tp _ _ _ _ X htp => by
    obtain ⟨cdD, hcD, _⟩ := any_some T.hd
    refine Bool.eq_false_iff.mpr fun same => ?_
    obtain rfl : D = tp := Value.ref.inj (beq_iff_eq.mp same)
    unfold clsIn at hcD
    split at hcD
    · rename_i c' d' cd' sl' ho
      have y := (X _ _ ho).symm.trans htp
      cases y
    · cases hcD
  ca := fun X I k => class_err T X I k
end
end PySem.KoX
namespace Ko
open PySem L2 PySem.Spec PyProof.Rows
section
variable {X : Cx} {pins : List (Addr × Obj)} {σ : Si} {H : Hp} {s : Shared}
/-- an error that is tracked, as the library reads it -/
theorem err_inst {a C : Addr} {fs : List (Str × V)} (hok : HOk X.prog X.w H s.heap) (e : Err H a C fs) : ∃ ox od, PySem.W.InstAt s.heap a ox C od := by
  rcases e with ⟨_, e⟩ | ⟨d, _, e, q⟩
  · obtain ⟨t1, ho⟩ := exo_at hok e
    exact ⟨_, none, ho, rfl, rfl, trivial⟩
  · obtain ⟨t1, ho⟩ := exo_at hok e
    obtain ⟨mA, ⟨od, es, ep, hd, _⟩, _⟩ := exd_at hok q
    exact ⟨_, some od, ho, rfl, rfl, hd⟩
end
/-- e.n of an error -/
def tEat (K : PySem.W.Frag) (n : Str) (te : TE) : TE := fun σ H Q => te σ H fun x H1 => ∃ (a C d : Addr) (fs : List (Str × V)) (v : V), x = .ref a ∧ H1 a = some (exo a C (some d)) ∧ H1 d = some (exd d fs) ∧
  XfC K C ∧ PySem.W.findIn K (.ref C) n = some none ∧ fs.lookup n = some v ∧ Q v H1
theorem pe_eat {X : Cx} {e : Expr} {te : TE} {pos : Pos} {n : Str} (he : PE X e te) (hb : attributeBase e n X.env (eval e X.env) = eval e X.env := by rfl) : PE X (.Attribute e n pos) (tEat X.K n te) := by
  refine ⟨fun pins s σ H Q I h => attr_of hb (thn (he.run pins s σ H _ I h) fun u s1 hh => ?_)⟩
  obtain ⟨x, H1, I1, rx, a, C, d, fs, v, ex, ea, ed, T, hno, l, q⟩ := hh
  subst ex
  obtain rfl : u = .ref a := rx
  obtain ⟨t1, ho⟩ := exo_at I1.hok ea
  obtain ⟨mA, hns, hr⟩ := exd_at I1.hok ed
  obtain ⟨od, hod, hl⟩ := lookIn_ns hns
  obtain ⟨y, hu, ru⟩ := RelO.some_of (v := v) (o := mA n) (by rw [← l]; exact hr n)
  have J : PySem.W.InstAt s1.heap a _ C (some od) := ⟨ho, rfl, rfl, hod⟩
  have own := PySem.W.findObj_own (od := od) T.hdC hno rfl (by rw [hl, hu])
  exact HandSPX.exc_get I1.kIn J T.ga T.gg T.exC own (handed_of ru) ⟨v, H1, I1.tok _, ru, q⟩
/-- isinstance(e, c) of an error -/
def rIsErr (K : PySem.W.Frag) : List V → Hp → VK → Prop := fun xs H Q => ∃ (a C : Addr) (fs : List (Str × V)) (c : V) (cv : Value) (b : Bool), xs = [.ref a, c] ∧ Err H a C fs ∧ ExcC K C ∧ ClsV c cv ∧ PySem.W.kitOne K (.ref C) cv = some b ∧ Q (.bl b) H
theorem call_isErr {X : Cx} : CallR X (.builtin "isinstance") (rIsErr X.K) := by
  intro pins s σ H args us Q I r h
  obtain ⟨a, C, fs, c, cv, b, rfl, e, T, k, kt, q⟩ := h
  obtain ⟨y1, y2, rfl, r1, r2⟩ := vals2 r
  cases (show y1 = .ref a from r1)
  have e2 := k.eq r2
  subst e2
  obtain ⟨ox, od, J⟩ := err_inst I.hok e
  exact PySem.W.kia_one (PySem.KoX.kit_err T) I.kIn J kt (fun z => nomatch z) fun tk => ⟨.bl b, H, I.tok tk, rfl, q⟩
/-- .. of an error that the suite holds: its object stands apart from what is tracked -/
def rIsPin (K : PySem.W.Frag) (p : Addr × Obj) : List V → Hp → VK → Prop := fun xs H Q => ∃ (C : Addr) (d : Option Addr) (c : V) (cv : Value) (b : Bool), xs = [.ref p.1, c] ∧ Zc (.ref C) d p.2 ∧ (∃ vs, p.2.data = .fields vs) ∧
  (∀ dx, d = some dx → ∃ fs, H dx = some (exd dx fs)) ∧ ExcC K C ∧ ClsV c cv ∧ PySem.W.kitOne K (.ref C) cv = some b ∧ Q (.bl b) H
theorem call_isPin {X : Cx} {p : Addr × Obj} (hp : p ∈ X.pn) : CallR X (.builtin "isinstance") (rIsPin X.K p) := by
  intro pins s σ H args us Q I r h
  obtain ⟨C, d, c, cv, b, rfl, hz, ⟨vs, hv⟩, hd, T, k, kt, q⟩ := h
  obtain ⟨y1, y2, rfl, r1, r2⟩ := vals2 r
  cases (show y1 = .ref p.1 from r1)
  have e2 := k.eq r2
  subst e2
  obtain ⟨hget, _⟩ := I.pin p (List.mem_append_left _ hp)
  have J : ∃ od, PySem.W.InstAt s.heap p.1 p.2 C od := by
    obtain ⟨pa, oc, od, oda, osl⟩ := p
    obtain ⟨h1, h2⟩ := hz
    dsimp only at h1 h2 hv hget
    subst h1 h2 hv
    cases od with
    | none => exact ⟨none, hget, rfl, rfl, trivial⟩
    | some dx =>
      obtain ⟨fs, ed⟩ := hd dx rfl
      obtain ⟨mA, ⟨o, es, ep, ho, _⟩, _⟩ := exd_at I.hok ed
      exact ⟨some o, hget, rfl, rfl, ho⟩
  obtain ⟨od, J⟩ := J
  exact PySem.W.kia_one (PySem.KoX.kit_err T) I.kIn J kt (fun z => nomatch z) fun tk => ⟨.bl b, H, I.tok tk, rfl, q⟩
/-- an error that was made here, raised -/
def tRs (H0 : Hp) (R : Value → Prop) (te : TE) : Si → Hp → XK → Prop := fun σ H Q => te σ H fun x H1 => ∃ (a C : Addr) (d : Option Addr), x = .ref a ∧ H1 a = some (exo a C d) ∧ Fr0 H0 a ∧ R (.ref C) ∧ Q (.ref C) d (delH H1 a)
theorem pmk_err {X : Cx} {e : Expr} {te : TE} (hx : X.ex = []) (he : PE X e te) : PMk X e (tRs X.H_0 (Raises X) te) := by
  intro pins s σ H Q I h
  refine wpAny_mono (he.run pins s σ H _ I h) (fun u s1 hu => ?_) fun _ _ z => z
  obtain ⟨v, H1, I1, r1, a, C, d, rfl, ha, h0, hr, q⟩ := hu
  cases r1
  obtain ⟨t1, ho⟩ := exo_at I1.hok ha
  obtain ⟨G, gs, ga, J⟩ := I1.untrack (show H1 a = some (.ext _) from ha) h0 hx
  exact ⟨a, _, _, { s1 with heap := G }, delH H1 a, .ref C, d, rfl, J, gs, ga, ho, ⟨rfl, rfl⟩, rfl, rfl, delH_same, rfl, I1.bare, hr, q⟩
end Ko

/-! A def called in an except suite: its promise may speak of the exception that is held -/
namespace Ko
open PySem L2 L2H PySem.Spec PyProof.Rows
abbrev Pin := Addr × Obj
structure FnP (P : Program) (w : World) (K : PySem.W.Frag) (mg : Str → Option Value) (base : Heap) (k : Nat) (f : Addr) (fd : FuncData) (ps : List Str) (sp : Pin → Sp) : Prop where
  len : ∀ p vs H Q E, sp p vs H Q E → vs.length = ps.length
  run : ∀ (A : Around) (outer : List Env) (s : Shared) (H : Hp) (args : Args) (us : List Value) (vs : List V) (Q : VK) (E : XK) (p : Pin), RoomH k A → PinOk outer H s p → Env0 P w K mg base A outer s H →
    BindsTo s fd args (ps.zip us) → Vals vs us → sp p vs H Q E → codeAny (model P w) A (.call (.ref f) args) (CR CX0 outer P w H s Q E) s
theorem fnP_of {P : Program} {w : World} {K : PySem.W.Frag} {mg : Str → Option Value} {base : Heap} {k : Nat} {f : Addr} {x qual : Str} {st : Stmt} {fd : FuncData} {N ps : List Str} {sp : Pin → Sp} (F : Fun K x qual st f fd)
    (S : FnScope N ps (defScope st)) (len : ∀ p vs H Q E, sp p vs H Q E → vs.length = ps.length)
    (body : ∀ (cdv : Value) (A : Around) (outer : List Env) (s : Shared) (H : Hp) (vs : List V) (Q : VK) (E : XK) (p : Pin), RoomH k (A.deeper (envOfC qual (defScope st) s.heap.objs.size f cdv)) → sp p vs H Q E →
      ∃ t, PSs (cxH CX0 P w K mg base N qual (defScope st) f cdv A outer s H E p).nox (defBody st) t ∧ t { nx := fun _ H' => Q .non H', rt := Q } (L2.start N vs) H) : FnP P w K mg base (k + 1) f fd ps sp := by
  obtain ⟨oc, od, kV, doc, pm, an, cdv, ct, osl, rfl, lk, hcode⟩ := F.ex
  refine ⟨len, fun A outer s H args us vs Q E p room pin e0 hb r h => ?_⟩
  have hl := len _ _ _ _ _ h
  have kin : K.In s.heap := e0.mod.kin.keeps fun b o e => (e0.bs b o e).1
  have nolim : s.heap.NoLimit := e0.mod.nolimit.keeps fun b o e => (e0.bs b o e).1
  have kinds : ∀ y ∈ ps.zip us, (defScope st).names.lookup y.1 = some .local ∨ ((defScope st).names.lookup y.1 = some .cell ∧ ((cellsFrom (s.heap.objs.size + 1) (defScope st).names []).lookup y.1).isSome = true) := by
    rintro ⟨n, v⟩ hy
    rcases S.par n (List.of_mem_zip hy).1 with loc | cel
    · exact .inl loc
    · exact .inr ⟨cel, PySem.W.cellsFrom_some _ _ _ (.inl cel)⟩
  refine codeAny_call_function room.depth (kin _ _ lk) rfl S.co S.gen rfl (PySem.W.codeRec_of kin hcode) (hb _ _ _ _ (wpAny_newFunctionEnv_cells S.kind kinds fun env he s1 x => ?_))
  subst he
  refine ⟨nolim.keeps x.toInCall.keep, codeAny_func ?_⟩
  obtain ⟨t, ht, q⟩ := body cdv A outer s H vs Q E p (room.deeper _) h
  have I : Inv (cxH CX0 P w K mg base N qual (defScope st) f cdv A outer s H E p) [] (L2.start N vs) H s1 := inv_startH S pin e0 hl r x
  refine wpAny_mono (ht.nox.run [] s1 (L2.start N vs) H _ I q) (fun fl s' z => ?_) fun e s' z => z
  have fin : ∀ {σ' : Si} {H' : Hp} {v : V} {u : Value}, Inv (cxH CX0 P w K mg base N qual (defScope st) f cdv A outer s H E p) [] σ' H' s' → RelV v u → Q v H' → CE outer P w H s Q u s' := by
    intro σ' H' v u J rv y
    exact ⟨v, H', J.os, J.bare, J.base, J.hok, rv, y⟩
  cases fl with
  | ret u =>
    obtain ⟨v, σ', H', J, rv, y⟩ := z
    exact fin J rv y
  | next =>
    obtain ⟨σ', H', J, y⟩ := z
    exact fin (v := V.non) (u := Value.none) J rfl y
  | brk =>
    obtain ⟨_, _, _, y⟩ := z
    exact y.elim
  | cont =>
    obtain ⟨_, _, _, y⟩ := z
    exact y.elim
section
variable {X : Cx} {k : Nat} {f : Addr} {fd : FuncData} {ps : List Str} {sp : Pin → Sp} {x : Str} {q pos : Pos} {e : Expr} {es : List Expr} {t : TA} {p : Pin}
theorem pe_callP (Fp : FnP X.prog X.w X.K X.mg X.base k f fd ps sp) (room : RoomH k X.A) (hp : p ∈ X.pn) (hg : Gl X x) (hm : X.mg x = some (.ref f)) (hk : PySem.W.keepIn X.K (.ref f) = true) (hb : Binds X.K fd ps [])
    (ha : PA X (e :: es) t) (noDbg : (x == ("__debug__" : Str)) = false := by decide) (star1 : starEach (e :: es) X.env = (false, eval e X.env) :: starEach es X.env := by rfl) (plain : (backTo pos (starEach es X.env)).any (·.1) = false := by rfl) :
    PE X (.Call (.Name x q) (e :: es) [] pos) (tCall (sp p) [] E0 t) := by
  refine ⟨fun pins s σ H Q I h => wpAny_Call_Name_kw (ld_glob I hg hm ?_ noDbg)⟩
  refine PySem.W.callWith_K (h₀ := X.base) I.ok.mod.kin hk (thn (ha.run pos pins s σ H _ I h) fun us s1 hh => ?_) star1 plain
  obtain ⟨vs, H1, I1, r, y⟩ := hh
  refine ⟨I1.kIn, ?_⟩
  have y' : sp p vs H1 Q E0 := by
    rw [← List.append_nil vs]
    exact y
  have hl : us.length = ps.length := by
    rw [← r.length]
    exact Fp.len _ _ _ _ _ y'
  have b := hb s1 us I1.kIn (by rw [List.append_nil]; exact hl)
  rw [List.append_nil] at b
  have P1 := I1.pin p (List.mem_append_left _ hp)
  have pin : PinOk X.stack H1 s1 p := ⟨P1.1, P1.2.1, fun hm => (List.mem_cons.1 (I1.stkSub p.1 hm)).elim P1.2.2.1 P1.2.2.2.1, P1.2.2.2.2⟩
  refine wpAny_call (codeAny_mono (Fp.run X.A X.stack s1 H1 ⟨us, []⟩ us vs Q E0 p room pin I1.env0 b r y') fun r' s' z => ?_)
  cases r' with
  | error er => exact False.elim z
  | ok fl =>
    cases fl with
    | ret u => exact I1.after z
    | next => exact False.elim z
    | brk => exact False.elim z
    | cont => exact False.elim z
end
end Ko

/-! The text by places, what the top leaves, the bag of the draws -/
namespace Ko
open PySem L2 PySem.Spec PyProof.Rows
/-- b holds a bag: the cells at c, a place in them, the rest of a great one, a seed, a count -/
def Bag (H : Hp) (b c : Addr) : Prop := c ≠ b ∧ ∃ (ns : List Int) (at_ gr sd ct : Int), H b = some (.lst [.ref c, .int at_, .int gr, .int sd, .int ct]) ∧ H c = some (.lst (ns.map V.int)) ∧
  0 ≤ at_ ∧ 0 ≤ gr ∧ 0 ≤ sd ∧ sd < 2147483563
/-- all but b stands, b is a bag still -/
def Kp (b c : Addr) (H H' : Hp) : Prop := (∀ a o, a ≠ b → H a = some o → H' a = some o) ∧ Bag H' b c
theorem Kp.bag {b c : Addr} {H H' : Hp} (k : Kp b c H H') : Bag H' b c := k.2
theorem Kp.at {b c a : Addr} {H H' : Hp} {o : HO} (k : Kp b c H H') (h : a ≠ b) (e : H a = some o) : H' a = some o := k.1 a o h e
theorem Kp.trans {b c : Addr} {H H1 H2 : Hp} (k : Kp b c H H1) (k2 : Kp b c H1 H2) : Kp b c H H2 := ⟨fun a o h e => k2.1 a o h (k.1 a o h e), k2.2⟩
theorem Kp.refl {b c : Addr} {H : Hp} (B : Bag H b c) : Kp b c H H := ⟨fun _ _ _ e => e, B⟩
theorem Bag.has {H : Hp} {b c : Addr} (B : Bag H b c) : (∃ o, H b = some o) ∧ ∃ o, H c = some o := by
  obtain ⟨hc, ns, at_, gr, sd, ct, h, h2, _⟩ := B
  exact ⟨⟨_, h⟩, _, h2⟩
theorem Bag.free {H : Hp} {b c p : Addr} (B : Bag H b c) (n : H p = none) : p ≠ b ∧ p ≠ c := by
  obtain ⟨⟨o, h⟩, u, h2⟩ := B.has
  exact ⟨(ne_of_none h n).symm, (ne_of_none h2 n).symm⟩
/-- another object beside the bag is written -/
theorem Bag.put {H : Hp} {b c p : Addr} {o : HO} (B : Bag H b c) (hb : p ≠ b) (hc : p ≠ c) : Bag (upd H p o) b c := by
  obtain ⟨h, ns, at_, gr, sd, ct, h1, h2, r⟩ := B
  exact ⟨h, ns, at_, gr, sd, ct, by rw [upd_ne hb.symm]; exact h1, by rw [upd_ne hc.symm]; exact h2, r⟩
theorem Kp.put {b c p : Addr} {H H' : Hp} {o : HO} (k : Kp b c H H') (n : H p = none) (hb : p ≠ b) (hc : p ≠ c) : Kp b c H (upd H' p o) :=
  ⟨fun a u h e => by rw [upd_ne (ne_of_none e n)]; exact k.1 a u h e, k.2.put hb hc⟩
/-- something new beside the bag -/
theorem Kp.new {b c p : Addr} {H H' : Hp} {o : HO} (k : Kp b c H H') (n : H' p = none) : Kp b c H (upd H' p o) := by
  obtain ⟨hb, hc⟩ := k.2.free n
  refine ⟨fun a u h e => ?_, k.2.put hb hc⟩
  have q := k.1 a u h e
  rw [upd_ne (ne_of_none q n)]
  exact q
theorem Bag.nePair {H : Hp} {b c a : Addr} {xs : List V} (B : Bag H b c) (e : H a = some (.lst xs)) (h : xs.length ≠ 5) : a ≠ b := by
  obtain ⟨_, ns, at_, gr, sd, ct, q, _⟩ := B
  intro z
  rw [z, q] at e
  cases e
  exact h rfl
theorem Bag.neTup {H : Hp} {b c a : Addr} {xs : List V} (B : Bag H b c) (e : H a = some (.tup xs)) : a ≠ b := by
  obtain ⟨_, ns, at_, gr, sd, ct, q, _⟩ := B
  intro z
  rw [z, q] at e
  cases e
theorem Bag.same {H H' : Hp} {b c : Addr} (B : Bag H b c) (s : Same H H') : Bag H' b c := by
  obtain ⟨h, ns, at_, gr, sd, ct, h1, h2, r⟩ := B
  exact ⟨h, ns, at_, gr, sd, ct, s _ _ h1, s _ _ h2, r⟩
theorem Same.new {H H' : Hp} {p : Addr} {o : HO} (s : Same H H') (n : H' p = none) : Same H (upd H' p o) := fun a u e => by
  have q := s a u e
  rw [upd_ne (ne_of_none q n)]
  exact q
theorem Kp.same {b c : Addr} {H H1 H2 : Hp} (k : Kp b c H H1) (s : Same H1 H2) : Kp b c H H2 := ⟨fun a o h e => s a o (k.1 a o h e), k.2.same s⟩
/-- the built-in names that the texts use -/
def bltNames : List Str := ["len", "int", "str", "list", "tuple", "bool", "range", "zip", "all", "any", "isinstance", "ValueError", "abs", "max", "min", "sorted", "dict", "divmod", "enumerate", "sum", "set", "reversed"]
def Blt (mg : Str → Option Value) : Prop := ∀ x ∈ bltNames, mg x = none
theorem Blt.n_len {mg : Str → Option Value} (T : Blt mg) : mg "len" = none := T _ (by decide +kernel)
theorem Blt.n_int {mg : Str → Option Value} (T : Blt mg) : mg "int" = none := T _ (by decide +kernel)
theorem Blt.n_str {mg : Str → Option Value} (T : Blt mg) : mg "str" = none := T _ (by decide +kernel)
theorem Blt.n_list {mg : Str → Option Value} (T : Blt mg) : mg "list" = none := T _ (by decide +kernel)
theorem Blt.n_tuple {mg : Str → Option Value} (T : Blt mg) : mg "tuple" = none := T _ (by decide +kernel)
theorem Blt.n_bool {mg : Str → Option Value} (T : Blt mg) : mg "bool" = none := T _ (by decide +kernel)
theorem Blt.n_range {mg : Str → Option Value} (T : Blt mg) : mg "range" = none := T _ (by decide +kernel)
theorem Blt.n_zip {mg : Str → Option Value} (T : Blt mg) : mg "zip" = none := T _ (by decide +kernel)
theorem Blt.n_all {mg : Str → Option Value} (T : Blt mg) : mg "all" = none := T _ (by decide +kernel)
theorem Blt.n_any {mg : Str → Option Value} (T : Blt mg) : mg "any" = none := T _ (by decide +kernel)
theorem Blt.n_isinstance {mg : Str → Option Value} (T : Blt mg) : mg "isinstance" = none := T _ (by decide +kernel)
theorem Blt.n_ValueError {mg : Str → Option Value} (T : Blt mg) : mg "ValueError" = none := T _ (by decide +kernel)
theorem Blt.n_abs {mg : Str → Option Value} (T : Blt mg) : mg "abs" = none := T _ (by decide +kernel)
theorem Blt.n_max {mg : Str → Option Value} (T : Blt mg) : mg "max" = none := T _ (by decide +kernel)
theorem Blt.n_min {mg : Str → Option Value} (T : Blt mg) : mg "min" = none := T _ (by decide +kernel)
theorem Blt.n_sorted {mg : Str → Option Value} (T : Blt mg) : mg "sorted" = none := T _ (by decide +kernel)
theorem Blt.n_dict {mg : Str → Option Value} (T : Blt mg) : mg "dict" = none := T _ (by decide +kernel)
theorem Blt.n_divmod {mg : Str → Option Value} (T : Blt mg) : mg "divmod" = none := T _ (by decide +kernel)
theorem Blt.n_enumerate {mg : Str → Option Value} (T : Blt mg) : mg "enumerate" = none := T _ (by decide +kernel)
theorem Blt.n_sum {mg : Str → Option Value} (T : Blt mg) : mg "sum" = none := T _ (by decide +kernel)
theorem Blt.n_set {mg : Str → Option Value} (T : Blt mg) : mg "set" = none := T _ (by decide +kernel)
theorem Blt.n_reversed {mg : Str → Option Value} (T : Blt mg) : mg "reversed" = none := T _ (by decide +kernel)
/-- a def of the text at f, its promise at a level -/
structure Df (P : Program) (w : World) (K : PySem.W.Frag) (mg : Str → Option Value) (base : Heap) (k : Nat) (x : Str) (f : Addr) (ps : List Str) (sp : Sp) : Prop where
  g : mg x = some (.ref f)
  kp : PySem.W.keepIn K (Value.ref f) = true
  ok : ∃ fd, FnOk P w K mg base CX0 k f fd ps sp ∧ Binds K fd ps []
end Ko

namespace Ko
open PySem L2 PySem.Spec PyProof.Rows

open PySem.HandSPX (veTail refsVE)
/-- behind the error's __init__: the error with its fields, all else as it was -/
def Made (H H' : Hp) (a C : Addr) (fs : List (Str × V)) : Prop := Err H' a C fs ∧ ∀ p o, p ≠ a → H p = some o → H' p = some o
def spI (C : Addr) (ps : List Str) : Sp := fun vs H Q _ => ∃ (a : Addr) (args : List V), vs = .ref a :: args ∧ args.length = ps.length ∧ H a = some (exo a C none) ∧ ∀ H', Made H H' a C (ps.zip args).reverse → Q .non H'
/-- what the text says of the base -/
structure RTxt (K : PySem.W.Frag) (mg : Str → Option Value) (R : Addr) : Prop where
  g : mg "Refused" = some (.ref R)
  rd : ClX.CRead K R (.type "type")
  vB : PySem.W.findCls K (.ref R) (.type "type") "__init__" = some (.val (.builtin "ValueError.__init__"))
  cR : (PySem.W.clsIn K R).isSome = true
  tR : PySem.W.typeIn K (.ref R) = some (.type "type")
  hn : PySem.W.specialIn K (Value.builtin "object.__class__") "__get__" = some (some (.builtin "getset_descriptor.__get__"))
  ht : PySem.W.takesIn K (Value.builtin "object.__class__") = some true
  sB : PySem.W.subIn K (.ref R) (.type "BaseException") = some true
  dR : PySem.W.hasDictIn K R = true
/-- the class of an error, x by name, at C, its fields ps -/
structure Ecl (K : PySem.W.Frag) (mg : Str → Option Value) (R : Addr) (x : Str) (C : Addr) (ps : List Str) : Prop where
  g : mg x = some (.ref C)
  look : ∃ nm q N bs sn sub ab col dd k0 k1 k2 k3 k5, K.lookup C = some (excClassObj nm q C N bs (.ref R :: veTail) true sn sub ab col dd k0 k1 k2 k3 k5 "ValueError.__new__")
  sa : PySem.W.findIn K (Value.ref C) "__setattr__" = some (some (.builtin "object.__setattr__"))
  ga : PySem.W.findIn K (Value.ref C) "__getattribute__" = some (some (.builtin "BaseException.__getattribute__"))
  gg : PySem.W.findIn K (Value.ref C) "__getattr__" = some none
  gc : PySem.W.findIn K (.ref C) "__class__" = some (some (.builtin "object.__class__"))
  no : ∀ p ∈ ps, PySem.W.findIn K (.ref C) p = some none
  kp : PySem.W.keepIn K (Value.ref C) = true
section
variable {K : PySem.W.Frag} {mg : Str → Option Value} {R C : Addr} {x : Str} {ps : List Str}
theorem Ecl.cls (E : Ecl K mg R x C ps) : ∃ cd : ClassData, PySem.W.clsIn K C = some cd ∧ cd.mro = .ref C :: .ref R :: veTail ∧ cd.hasDict = true ∧ PySem.W.typeIn K (.ref C) = some (.type "type") := by
  obtain ⟨nm, q, N, bs, sn, sub, ab, col, dd, k0, k1, k2, k3, k5, h⟩ := E.look
  refine ⟨{ name := nm, bases := bs, mro := .ref C :: .ref R :: veTail, ns := N, qualname := q, hasDict := true, slotNames := sn, subclasses := sub, abstract := ab, collection := col, hasDel := false }, ?_, rfl, rfl, ?_⟩
  · unfold PySem.W.clsIn
    rw [h]
  · unfold PySem.W.typeIn
    simp only [h]
    first
      | rfl
      | simp [excClassObj]
theorem Ecl.oex (E : Ecl K mg R x C ps) : OexC K C := by
  obtain ⟨cd, h1, h2, h3, h4⟩ := E.cls
  obtain ⟨nm, q, N, bs, sn, sub, ab, col, dd, k0, k1, k2, k3, k5, h⟩ := E.look
  refine ⟨⟨nm, q, N, bs, _, sn, sub, ab, col, dd, k0, k1, k2, k3, k5, h, by rfl⟩, E.sa, ?_, h4, E.kp⟩
  show PySem.W.mroIn K C _ = _
  unfold PySem.W.mroIn
  rw [h1, Option.bind_some, h2]
  rfl
theorem Ecl.xf (E : Ecl K mg R x C ps) : XfC K C := by
  obtain ⟨cd, h1, h2, h3, h4⟩ := E.cls
  refine ⟨E.ga, E.gg, E.oex.exC, ?_⟩
  unfold PySem.W.hasDictIn
  rw [h1]
  simp [h3]
theorem Ecl.xc (E : Ecl K mg R x C ps) (T : RTxt K mg R) : ExcC K C := by
  obtain ⟨cd, h1, h2, h3, h4⟩ := E.cls
  refine ⟨E.ga, E.gg, E.oex.exC, E.xf.hdC, E.gc, T.hn, T.ht, ?_⟩
  unfold PySem.W.mroIn
  rw [h1, Option.bind_some, h2]
  rfl
/-- of the same class -/
theorem Ecl.kit_same (C : Addr) : PySem.W.kitOne K (.ref C) (.ref C) = some true := by
  unfold PySem.W.kitOne
  rw [if_pos (by simp)]
/-- of another class -/
theorem Ecl.kit_other {x' : Str} {C' : Addr} {ps' : List Str} (E : Ecl K mg R x C ps) (E' : Ecl K mg R x' C' ps') (h : C ≠ C') (hR : C' ≠ R) : PySem.W.kitOne K (.ref C) (.ref C') = some false := by
  obtain ⟨cd, h1, h2, h3, h4⟩ := E.cls
  obtain ⟨cd', g1, g2, g3, g4⟩ := E'.cls
  unfold PySem.W.kitOne
  rw [if_neg (by simp [h])]
  show (if ((PySem.W.clsIn K C').isSome && PySem.W.typeIn K (.ref C') == some (.type "type")) = true then PySem.W.subIn K (.ref C) (.ref C') else none) = _
  rw [if_pos (by rw [g1, g4]; rfl)]
  show PySem.W.mroIn K C _ = _
  unfold PySem.W.mroIn
  rw [h1, Option.bind_some, h2]
  have e1 : (Value.ref C == Value.ref C') = false := by simp [h]
  have e2 : (Value.ref R == Value.ref C') = false := by simp [Ne.symm hR]
  simp [h, Ne.symm h, hR, Ne.symm hR]
  try decide
theorem Ecl.kit_base (E : Ecl K mg R x C ps) (T : RTxt K mg R) (hR : C ≠ R) : PySem.W.kitOne K (.ref C) (.ref R) = some true := by
  obtain ⟨cd, h1, h2, h3, h4⟩ := E.cls
  unfold PySem.W.kitOne
  rw [if_neg (by simp [hR])]
  show (if ((PySem.W.clsIn K R).isSome && PySem.W.typeIn K (.ref R) == some (.type "type")) = true then PySem.W.subIn K (.ref C) (.ref R) else none) = _
  rw [if_pos (by rw [T.cR, T.tR]; rfl)]
  show PySem.W.mroIn K C _ = _
  unfold PySem.W.mroIn
  rw [h1, Option.bind_some, h2]
  simp
theorem Ecl.kit_VE (E : Ecl K mg R x C ps) : PySem.W.kitOne K (.ref C) (.type "ValueError") = some true := by
  obtain ⟨cd, h1, h2, h3, h4⟩ := E.cls
  unfold PySem.W.kitOne
  rw [if_neg (show ¬ (Value.ref C == Value.type "ValueError") = true from Bool.false_ne_true)]
  show (if PySem.W.kitMeta "ValueError" = true then PySem.W.subIn K (.ref C) (.type "ValueError") else none) = _
  rw [if_pos (by decide +kernel)]
  show PySem.W.mroIn K C _ = _
  unfold PySem.W.mroIn
  rw [h1, Option.bind_some, h2]
  rfl
end

/-- how such a call binds: by position, by names -/
def Bnd (K : PySem.W.Frag) (fd : FuncData) (ps : List Str) : Prop :=
  KBn K fd ("self" :: ps) (ps.length + 1) [] (fun us ws => us ++ ws) (fun us ws => us ++ ws) ∧ match ps with
    | [p] => KBn K fd ["self", p] 1 [p] (fun us ws => us ++ ws) (fun us ws => us ++ ws)
    | [p, r] => KBn K fd ["self", p, r] 2 [r] (fun us ws => us ++ ws) (fun us ws => us ++ ws) ∧ KBn K fd ["self", p, r] 1 [r, p] (fun us ws => us ++ ws.reverse) (fun us ws => us ++ ws.reverse)
    | _ => True
theorem kb {K : PySem.W.Frag} {x qual : Str} {st : Stmt} {f : Addr} {fd : FuncData} {ps : List Str} (F : Fun K x qual st f fd) (n : Nat) (ks : List Str) (g : {α : Type} → List α → List α → List α)
    (hg : ∀ (vs zs : List V) (us ws : List Value), Vals vs us → Vals zs ws → Vals (g vs zs) (g us ws))
    (h : ∀ (kV doc pm : Value) (an : Option Addr) (cdv ct : Value) (us ws : List Value), us.length = n → ws.length = ks.length →
      bindArgs (PySem.W.fnOf x qual (defArgs st) (defBody st) (defScope st) .none kV doc pm an cdv ct) ⟨us, ks.zip ws⟩ = pure (ps.zip (g us ws))) : KBn K fd ps n ks (fun us ws => g us ws) (fun us ws => g us ws) := by
  obtain ⟨oc, od, kV, doc, pm, an, cdv, ct, osl, rfl, lk, hcode⟩ := F.ex
  exact ⟨fun s us ws X l1 l2 => .of_eq (h kV doc pm an cdv ct us ws l1 l2), fun r1 r2 => hg _ _ _ _ r1 r2⟩
abbrev gApp : {α : Type} → List α → List α → List α := fun us ws => us ++ ws
abbrev gRev : {α : Type} → List α → List α → List α := fun us ws => us ++ ws.reverse
end Ko

namespace Ko
open PySem L2 PySem.Spec PyProof.Rows
def top (i : Nat) : Stmt := PySem.Challenge.pw_mostlaid_k01_exact_numbers.main.body.getD i (.Pass ⟨0, 0, 0, 0⟩)
abbrev s_is_whole : Stmt := top 8
theorem sc_is_whole : FnScope ["value"] ["value"] (defScope s_is_whole) := ⟨rfl, rfl, rfl, by decide +kernel, rfl, by decide +kernel, by decide +kernel⟩
abbrev s_is_fraction : Stmt := top 9
theorem sc_is_fraction : FnScope ["value"] ["value"] (defScope s_is_fraction) := ⟨rfl, rfl, rfl, by decide +kernel, rfl, by decide +kernel, by decide +kernel⟩
abbrev s_is_number : Stmt := top 10
theorem sc_is_number : FnScope ["value"] ["value"] (defScope s_is_number) := ⟨rfl, rfl, rfl, by decide +kernel, rfl, by decide +kernel, by decide +kernel⟩
abbrev s_reduced : Stmt := top 11
theorem sc_reduced : FnScope ["n", "d", "shared"] ["n", "d"] (defScope s_reduced) := ⟨rfl, rfl, rfl, by decide +kernel, rfl, by decide +kernel, by decide +kernel⟩
abbrev s_pair : Stmt := top 12
theorem sc_pair : FnScope ["a"] ["a"] (defScope s_pair) := ⟨rfl, rfl, rfl, by decide +kernel, rfl, by decide +kernel, by decide +kernel⟩
abbrev s_has_digits : Stmt := top 13
theorem sc_has_digits : FnScope ["text", "sign"] ["text"] (defScope s_has_digits) := ⟨rfl, rfl, rfl, by decide +kernel, rfl, by decide +kernel, by decide +kernel⟩
abbrev s_read_number : Stmt := top 14
theorem sc_read_number : FnScope ["text", "negative", "words", "word", "n", "d"] ["text"] (defScope s_read_number) := ⟨rfl, rfl, rfl, by decide +kernel, rfl, by decide +kernel, by decide +kernel⟩
abbrev s_exact : Stmt := top 15
theorem sc_exact : FnScope ["value", "number"] ["value"] (defScope s_exact) := ⟨rfl, rfl, rfl, by decide +kernel, rfl, by decide +kernel, by decide +kernel⟩
abbrev s_plus : Stmt := top 16
theorem sc_plus : FnScope ["a", "b"] ["a", "b"] (defScope s_plus) := ⟨rfl, rfl, rfl, by decide +kernel, rfl, by decide +kernel, by decide +kernel⟩
abbrev s_minus : Stmt := top 17
theorem sc_minus : FnScope ["a", "b"] ["a", "b"] (defScope s_minus) := ⟨rfl, rfl, rfl, by decide +kernel, rfl, by decide +kernel, by decide +kernel⟩
abbrev s_times : Stmt := top 18
theorem sc_times : FnScope ["a", "b"] ["a", "b"] (defScope s_times) := ⟨rfl, rfl, rfl, by decide +kernel, rfl, by decide +kernel, by decide +kernel⟩
abbrev s_over : Stmt := top 19
theorem sc_over : FnScope ["a", "b"] ["a", "b"] (defScope s_over) := ⟨rfl, rfl, rfl, by decide +kernel, rfl, by decide +kernel, by decide +kernel⟩
abbrev s_below : Stmt := top 20
theorem sc_below : FnScope ["a", "b"] ["a", "b"] (defScope s_below) := ⟨rfl, rfl, rfl, by decide +kernel, rfl, by decide +kernel, by decide +kernel⟩
abbrev s_compare : Stmt := top 21
theorem sc_compare : FnScope ["a", "b"] ["a", "b"] (defScope s_compare) := ⟨rfl, rfl, rfl, by decide +kernel, rfl, by decide +kernel, by decide +kernel⟩
abbrev s_least : Stmt := top 22
theorem sc_least : FnScope ["numbers", "best", "number"] ["numbers"] (defScope s_least) := ⟨rfl, rfl, rfl, by decide +kernel, rfl, by decide +kernel, by decide +kernel⟩
abbrev s_greatest_of : Stmt := top 23
theorem sc_greatest_of : FnScope ["numbers", "best", "number"] ["numbers"] (defScope s_greatest_of) := ⟨rfl, rfl, rfl, by decide +kernel, rfl, by decide +kernel, by decide +kernel⟩
abbrev s_sort_keys : Stmt := top 24
theorem sc_sort_keys : FnScope ["numbers", "most", "number", "scale"] ["numbers"] (defScope s_sort_keys) := ⟨rfl, rfl, rfl, by decide +kernel, rfl, by decide +kernel, by decide +kernel⟩
abbrev s_in_order : Stmt := top 25
theorem sc_in_order : FnScope ["numbers", "pairs", "number", "table", "key"] ["numbers"] (defScope s_in_order) := ⟨rfl, rfl, rfl, by decide +kernel, rfl, by decide +kernel, by decide +kernel⟩
abbrev s_whole_text : Stmt := top 26
theorem sc_whole_text : FnScope ["n", "block", "blocks", "last"] ["n"] (defScope s_whole_text) := ⟨rfl, rfl, rfl, by decide +kernel, rfl, by decide +kernel, by decide +kernel⟩
abbrev s_number_text : Stmt := top 27
theorem sc_number_text : FnScope ["a", "n", "d", "sign", "top"] ["a"] (defScope s_number_text) := ⟨rfl, rfl, rfl, by decide +kernel, rfl, by decide +kernel, by decide +kernel⟩
abbrev s_l_bag : Stmt := top 29
theorem sc_l_bag : FnScope ["_law_script", "_law_seed", "_law_cell"] ["_law_script"] (defScope s_l_bag) := ⟨rfl, rfl, rfl, by decide +kernel, rfl, by decide +kernel, by decide +kernel⟩
abbrev s_l_draw : Stmt := top 30
theorem sc_l_draw : FnScope ["_law_bag_here", "_law_many", "_law_cell", "_law_digit", "_law_seed"] ["_law_bag_here", "_law_many"] (defScope s_l_draw) := ⟨rfl, rfl, rfl, by decide +kernel, rfl, by decide +kernel, by decide +kernel⟩
abbrev s_l_of : Stmt := top 31
theorem sc_l_of : FnScope ["_law_bag_here", "_law_things"] ["_law_bag_here", "_law_things"] (defScope s_l_of) := ⟨rfl, rfl, rfl, by decide +kernel, rfl, by decide +kernel, by decide +kernel⟩
abbrev s_l_like : Stmt := top 32
theorem sc_l_like : FnScope ["_law_found", "_law_due", "_law_one", "_law_two"] ["_law_found", "_law_due"] (defScope s_l_like) := ⟨rfl, rfl, rfl, by decide +kernel, rfl, by decide +kernel, by decide +kernel⟩
abbrev s_l_low : Stmt := top 33
theorem sc_l_low : FnScope ["_law_one", "_law_big", "_law_small"] ["_law_one"] (defScope s_l_low) := ⟨rfl, rfl, rfl, by decide +kernel, rfl, by decide +kernel, by decide +kernel⟩
abbrev s_l_under : Stmt := top 34
theorem sc_l_under : FnScope ["_law_one", "_law_two"] ["_law_one", "_law_two"] (defScope s_l_under) := ⟨rfl, rfl, rfl, by decide +kernel, rfl, by decide +kernel, by decide +kernel⟩
abbrev s_l_add : Stmt := top 35
theorem sc_l_add : FnScope ["_law_one", "_law_two"] ["_law_one", "_law_two"] (defScope s_l_add) := ⟨rfl, rfl, rfl, by decide +kernel, rfl, by decide +kernel, by decide +kernel⟩
abbrev s_l_take : Stmt := top 36
theorem sc_l_take : FnScope ["_law_one", "_law_two"] ["_law_one", "_law_two"] (defScope s_l_take) := ⟨rfl, rfl, rfl, by decide +kernel, rfl, by decide +kernel, by decide +kernel⟩
abbrev s_l_mul : Stmt := top 37
theorem sc_l_mul : FnScope ["_law_one", "_law_two"] ["_law_one", "_law_two"] (defScope s_l_mul) := ⟨rfl, rfl, rfl, by decide +kernel, rfl, by decide +kernel, by decide +kernel⟩
abbrev s_l_sorted : Stmt := top 38
theorem sc_l_sorted : FnScope ["_law_many", "_law_found", "_law_one", "_law_two"] ["_law_many"] (defScope s_l_sorted) := ⟨rfl, rfl, rfl, by decide +kernel, rfl, by decide +kernel, by decide +kernel⟩
abbrev s_l_number : Stmt := top 39
theorem sc_l_number : FnScope ["_law_one", "_law_part"] ["_law_one"] (defScope s_l_number) := ⟨rfl, rfl, rfl, by decide +kernel, rfl, by decide +kernel, by decide +kernel⟩
abbrev s_l_handed : Stmt := top 40
theorem sc_l_handed : FnScope ["_law_bag_here", "_law_one"] ["_law_bag_here", "_law_one"] (defScope s_l_handed) := ⟨rfl, rfl, rfl, by decide +kernel, rfl, by decide +kernel, by decide +kernel⟩
abbrev s_l_drawn : Stmt := top 41
theorem sc_l_drawn : FnScope ["_law_bag_here", "_law_below", "_law_way"] ["_law_bag_here"] (defScope s_l_drawn) := ⟨rfl, rfl, rfl, by decide +kernel, rfl, by decide +kernel, by decide +kernel⟩
abbrev s_l_text : Stmt := top 42
theorem sc_l_text : FnScope ["_law_one"] ["_law_one"] (defScope s_l_text) := ⟨rfl, rfl, rfl, by decide +kernel, rfl, by decide +kernel, by decide +kernel⟩
abbrev s_l_good : Stmt := top 43
theorem sc_l_good : FnScope ["_law_bag_here", "_law_one", "_law_way", "_law_more", "_law_big"] ["_law_bag_here"] (defScope s_l_good) := ⟨rfl, rfl, rfl, by decide +kernel, rfl, by decide +kernel, by decide +kernel⟩
abbrev s_l_near_text : Stmt := top 44
theorem sc_l_near_text : FnScope ["_law_bag_here", "_law_one", "_law_top", "_law_below", "_law_text_here", "_law_way", "_law_more", "_law_big"] ["_law_bag_here", "_law_one"] (defScope s_l_near_text) := ⟨rfl, rfl, rfl, by decide +kernel, rfl, by decide +kernel, by decide +kernel⟩
abbrev s_l_near : Stmt := top 45
theorem sc_l_near : FnScope ["_law_bag_here", "_law_one", "_law_top", "_law_below", "_law_way"] ["_law_bag_here", "_law_one"] (defScope s_l_near) := ⟨rfl, rfl, rfl, by decide +kernel, rfl, by decide +kernel, by decide +kernel⟩
abbrev s_l_refused : Stmt := top 46
theorem sc_l_refused : FnScope ["_law_thing", "e"] ["_law_thing"] (defScope s_l_refused) := ⟨rfl, rfl, rfl, by decide +kernel, rfl, by decide +kernel, by decide +kernel⟩
abbrev s_l_over_none : Stmt := top 47
theorem sc_l_over_none : FnScope ["_law_bag_here", "_law_one", "e"] ["_law_bag_here", "_law_one"] (defScope s_l_over_none) := ⟨rfl, rfl, rfl, by decide +kernel, rfl, by decide +kernel, by decide +kernel⟩
abbrev s_l_step : Stmt := top 48
theorem sc_l_step : FnScope ["_law_bag_here", "_law_way", "_law_one", "_law_two", "_law_left", "_law_right", "_law_turned"] ["_law_bag_here", "_law_way", "_law_one", "_law_two"] (defScope s_l_step) := ⟨rfl, rfl, rfl, by decide +kernel, rfl, by decide +kernel, by decide +kernel⟩
abbrev s_l_runs : Stmt := top 49
theorem sc_l_runs : FnScope ["_law_bag_here", "_law_pool", "_law_k", "_law_one", "_law_two", "_law_way", "_law_due", "_law_told", "_law_some"] ["_law_bag_here", "_law_pool"] (defScope s_l_runs) := ⟨rfl, rfl, rfl, by decide +kernel, rfl, by decide +kernel, by decide +kernel⟩
abbrev s_l_lists : Stmt := top 50
theorem sc_l_lists : FnScope ["_law_bag_here", "_law_pool", "_law_some", "_law_k", "_law_handed_here", "_law_one", "_law_kept", "_law_due", "_law_first", "_law_told"] ["_law_bag_here", "_law_pool"] (defScope s_l_lists) := ⟨rfl, rfl, rfl, by decide +kernel, rfl, by decide +kernel, by decide +kernel⟩
abbrev s_l_is_own : Stmt := top 51
theorem sc_l_is_own : FnScope ["_law_thing"] ["_law_thing"] (defScope s_l_is_own) := ⟨rfl, rfl, rfl, by decide +kernel, rfl, by decide +kernel, by decide +kernel⟩
abbrev s_law : Stmt := top 52
theorem sc_law : FnScope ["_law_script", "_law_bag_here", "_law_pool", "_law_k", "_law_good_here", "_law_wrong", "_law_told"] ["_law_script"] (defScope s_law) := ⟨rfl, rfl, rfl, by decide +kernel, rfl, by decide +kernel, by decide +kernel⟩
abbrev s_BadNumber : Stmt := inClass (top 3) 0
end Ko

namespace Ko
open PySem L2 PySem.Spec PyProof.Rows
open PySem.HandSPX (veTail)
/-! The head: what the top leaves, by one run in the kernel -/
def ecB (K : PySem.W.Frag) (R C : Addr) : Bool := match K.lookup C with
  | some ⟨.type c, _, .cls cd, sl⟩ => (match sl.toList with
    | [_, _, _, _, some (.builtin n), _] => decide (c = "type") && (decide (n = "ValueError.__new__") && (decide (cd.mro = .ref C :: .ref R :: veTail) && (cd.hasDict && !cd.hasDel)))
    | _ => false)
  | _ => false
theorem ecB_ok {K : PySem.W.Frag} {R C : Addr} (h : ecB K R C = true) :
    ∃ nm q N bs sn sub ab col dd k0 k1 k2 k3 k5, K.lookup C = some (excClassObj nm q C N bs (.ref R :: veTail) true sn sub ab col dd k0 k1 k2 k3 k5 "ValueError.__new__") := by
  unfold ecB at h
  split at h
  · rename_i c dd cd sl ho
    split at h
    · rename_i k0 k1 k2 k3 n k5 hs
      simp only [Bool.and_eq_true, decide_eq_true_eq, Bool.not_eq_true'] at h
      obtain ⟨rfl, rfl, hm, hd, hdel⟩ := h
      obtain ⟨nm, bs, mro, ns, qn, hd2, sn, sub, ab, col, del⟩ := cd
      dsimp only at hm hd hdel
      subst hm hd hdel
      have hsl : sl = #[k0, k1, k2, k3, some (.builtin "ValueError.__new__"), k5] := by
        obtain ⟨l⟩ := sl
        simp only at hs
        rw [hs]
      subst hsl
      exact ⟨nm, qn, ns, bs, sn, sub, ab, col, dd, k0, k1, k2, k3, k5, ho⟩
    · cases h
  · cases h
/-- the class of an error, as the text leaves it -/
def clsB (K : PySem.W.Frag) (x : Str) (ps : List Str) : Bool :=
  He.eqO (PySem.W.nsIn K mainGlobals x) (some (some (.ref (He.ga K x)))) && (ecB K (He.ga K "Refused") (He.ga K x) && (He.eqO (PySem.W.findIn K (.ref (He.ga K x)) "__setattr__") (some (some (.builtin "object.__setattr__"))) &&
  (He.eqO (PySem.W.findIn K (.ref (He.ga K x)) "__getattribute__") (some (some (.builtin "BaseException.__getattribute__"))) && (He.eqO (PySem.W.findIn K (.ref (He.ga K x)) "__getattr__") (some none) &&
  (He.eqO (PySem.W.findIn K (.ref (He.ga K x)) "__class__") (some (some (.builtin "object.__class__"))) && ((ps.all fun p => He.eqO (PySem.W.findIn K (.ref (He.ga K x)) p) (some none)) && (PySem.W.keepIn K (.ref (He.ga K x)) &&
  (He.eqO (PySem.W.findIn K (.ref (He.ga K x)) "__init__") (some (some (.ref (He.ma K (He.ga K x) "__init__")))) && decide (PySem.W.typeIn K (.ref (He.ma K (He.ga K x) "__init__")) = some (.type "function"))))))))))
theorem clsB_ok {K : PySem.W.Frag} {h : Heap} {mg : Str → Option Value} {x : Str} {ps : List Str} (X : K.In h) (G : h.Ns mainGlobals mg) (c : clsB K x ps = true) :
    Ecl K mg (He.ga K "Refused") x (He.ga K x) ps ∧ PySem.W.findIn K (.ref (He.ga K x)) "__init__" = some (some (.ref (He.ma K (He.ga K x) "__init__"))) ∧ PySem.W.typeIn K (.ref (He.ma K (He.ga K x) "__init__")) = some (.type "function") := by
  obtain ⟨c1, c⟩ := He.ba c
  obtain ⟨c2, c⟩ := He.ba c
  obtain ⟨c3, c⟩ := He.ba c
  obtain ⟨c4, c⟩ := He.ba c
  obtain ⟨c5, c⟩ := He.ba c
  obtain ⟨c6, c⟩ := He.ba c
  obtain ⟨c7, c⟩ := He.ba c
  obtain ⟨c8, c⟩ := He.ba c
  obtain ⟨c9, c10⟩ := He.ba c
  exact ⟨⟨PySem.W.mg_of X G (He.eqO_ok c1), ecB_ok c2, He.eqO_ok c3, He.eqO_ok c4, He.eqO_ok c5, He.eqO_ok c6, fun p hp => He.eqO_ok (List.all_eq_true.mp c7 p hp), c8⟩, He.eqO_ok c9, of_decide_eq_true c10⟩
def eqF (a b : Option PySem.W.CFound) : Bool := match a, b with
  | some (.val (.builtin n)), some (.val (.builtin m)) => decide (n = m)
  | _, _ => false
theorem eqF_ok {a : Option PySem.W.CFound} {n : String} (h : eqF a (some (.val (.builtin n))) = true) : a = some (.val (.builtin n)) := by
  unfold eqF at h
  split at h
  · rename_i n1 m1 e
    cases e
    rw [of_decide_eq_true h]
  · cases h
/-- the base of the errors -/
def refB (K : PySem.W.Frag) : Bool :=
  He.eqO (PySem.W.nsIn K mainGlobals "Refused") (some (some (.ref (He.ga K "Refused")))) && (PySem.W.readsIn K (He.ga K "Refused") (.type "type") && (He.eqO (PySem.W.specialIn K (.ref (He.ga K "Refused")) "__getattribute__") (some (some (.builtin "type.__getattribute__"))) &&
  (eqF (PySem.W.findCls K (.ref (He.ga K "Refused")) (.type "type") "__init__") (some (.val (.builtin "ValueError.__init__"))) && ((PySem.W.clsIn K (He.ga K "Refused")).isSome && (decide (PySem.W.typeIn K (.ref (He.ga K "Refused")) = some (.type "type")) &&
  (He.eqO (PySem.W.specialIn K (.builtin "object.__class__") "__get__") (some (some (.builtin "getset_descriptor.__get__"))) && (decide (PySem.W.takesIn K (.builtin "object.__class__") = some true) &&
  (decide (PySem.W.subIn K (.ref (He.ga K "Refused")) (.type "BaseException") = some true) && PySem.W.hasDictIn K (He.ga K "Refused")))))))))
theorem refB_ok {K : PySem.W.Frag} {h : Heap} {mg : Str → Option Value} (X : K.In h) (G : h.Ns mainGlobals mg) (c : refB K = true) : RTxt K mg (He.ga K "Refused") := by
  obtain ⟨c1, c⟩ := He.ba c
  obtain ⟨c2, c⟩ := He.ba c
  obtain ⟨c3, c⟩ := He.ba c
  obtain ⟨c4, c⟩ := He.ba c
  obtain ⟨c5, c⟩ := He.ba c
  obtain ⟨c6, c⟩ := He.ba c
  obtain ⟨c7, c⟩ := He.ba c
  obtain ⟨c8, c⟩ := He.ba c
  obtain ⟨c9, c10⟩ := He.ba c
  exact ⟨PySem.W.mg_of X G (He.eqO_ok c1), ⟨c2, He.eqO_ok c3⟩, eqF_ok c4, c5, of_decide_eq_true c6, He.eqO_ok c7, of_decide_eq_true c8, of_decide_eq_true c9, c10⟩

def intB (o : Option (Option Value)) (n : Int) : Bool := match o with
  | some (some (.int m _)) => decide (m = n)
  | _ => false
theorem intB_ok {o : Option (Option Value)} {n : Int} (h : intB o n = true) : ∃ t, o = some (some (.int n t)) := by
  unfold intB at h
  split at h
  · rename_i m t
    rw [of_decide_eq_true h]
    exact ⟨t, rfl⟩
  · cases h
def strB (o : Option (Option Value)) (x : Str) : Bool := match o with
  | some (some (.str y _)) => decide (y = x)
  | _ => false
theorem strB_ok {o : Option (Option Value)} {x : Str} (h : strB o x = true) : ∃ t, o = some (some (.str x t)) := by
  unfold strB at h
  split at h
  · rename_i m t
    rw [of_decide_eq_true h]
    exact ⟨t, rfl⟩
  · cases h
def defNames : List Str := (["is_whole", "is_fraction", "is_number", "reduced", "pair", "has_digits", "read_number", "exact", "plus", "minus", "times", "over", "below", "compare", "least", "greatest_of", "sort_keys", "in_order", "whole_text", "number_text"] : List Str) ++ (["_law_bag", "_law_draw", "_law_of", "_law_like", "_law_low", "_law_under", "_law_add", "_law_take", "_law_mul", "_law_sorted", "_law_number", "_law_handed", "_law_drawn", "_law_text", "_law_good", "_law_near_text", "_law_near", "_law_refused", "_law_over_none", "_law_step"] : List Str) ++ (["_law_runs", "_law_lists", "_law_is_own", "law"] : List Str)
/-- all that is asked of the text -/
def exB (K : PySem.W.Frag) : Bool := refB K && (clsB K "BadNumber" ["value"] && ((bltNames.all fun x => He.eqO (PySem.W.nsIn K mainGlobals x) (some none)) && ((defNames.all fun x => He.eqO (PySem.W.nsIn K mainGlobals x) (some (some (.ref (He.ga K x))))) &&
  (decide (He.ga K "BadNumber" ≠ He.ga K "Refused") && (He.eqO (PySem.W.nsIn K mainGlobals "gcd") (some (some (.builtin "math.gcd"))) && (intB (PySem.W.nsIn K mainGlobals "MOST_DIGITS") 60 && strB (PySem.W.nsIn K mainGlobals "DIGITS") "0123456789"))))))
def mkD (x : Str) (st : Stmt) : He.DefD := ⟨(x, none), x, x, defArgs st, defBody st, defScope st, [], []⟩
def mkI (x qual : Str) (st : Stmt) : He.DefD := ⟨(x, some "__init__"), "__init__", qual, defArgs st, defBody st, defScope st, [], []⟩
def fnA : List He.DefD := [mkI "BadNumber" "BadNumber.__init__" s_BadNumber, mkD "is_whole" s_is_whole, mkD "is_fraction" s_is_fraction, mkD "is_number" s_is_number, mkD "reduced" s_reduced, mkD "pair" s_pair, mkD "has_digits" s_has_digits, mkD "read_number" s_read_number, mkD "exact" s_exact, mkD "plus" s_plus, mkD "minus" s_minus, mkD "times" s_times, mkD "over" s_over, mkD "below" s_below, mkD "compare" s_compare, mkD "least" s_least, mkD "greatest_of" s_greatest_of, mkD "sort_keys" s_sort_keys, mkD "in_order" s_in_order, mkD "whole_text" s_whole_text, mkD "number_text" s_number_text, mkD "_law_bag" s_l_bag, mkD "_law_draw" s_l_draw, mkD "_law_of" s_l_of, mkD "_law_like" s_l_like, mkD "_law_low" s_l_low, mkD "_law_under" s_l_under, mkD "_law_add" s_l_add, mkD "_law_take" s_l_take, mkD "_law_mul" s_l_mul, mkD "_law_sorted" s_l_sorted, mkD "_law_number" s_l_number, mkD "_law_handed" s_l_handed, mkD "_law_drawn" s_l_drawn, mkD "_law_text" s_l_text, mkD "_law_good" s_l_good, mkD "_law_near_text" s_l_near_text, mkD "_law_near" s_l_near, mkD "_law_refused" s_l_refused, mkD "_law_over_none" s_l_over_none, mkD "_law_step" s_l_step, mkD "_law_runs" s_l_runs, mkD "_law_lists" s_l_lists, mkD "_law_is_own" s_l_is_own, mkD "law" s_law]
abbrev HA : Type := Bool × He.AlD
def obsK (K : PySem.W.Frag) : HA := (exB K, He.obsD [] fnA K)
def obsG (n : Nat) (g : Addr → Option Obj) : HA := obsK (He.frG g (cStatics :: He.asD g n))
def hk : PySem.W.Hook where
  α := HA
  obs := fun s => obsG 4 s.heap.get?
  val := fun _ => (true, He.valD fnA)
  says := fun _ h => ∃ K : PySem.W.Frag, K.In h ∧ exB K = true ∧ He.SaysD [] fnA K
  of := fun _ _ e => ⟨_, He.frG_in, congrArg (fun z : HA => z.1) e, congrArg (fun z : HA => z.2) e⟩
  keeps := fun _ _ _ h k => by
    obtain ⟨K, a, b, c⟩ := h
    exact ⟨K, PySem.W.Frag.In.keeps a k, b, c⟩
theorem obsG_eq {g : Addr → Option Obj} {s : Shared} (h : ∀ a, g a = s.heap.get? a) : obsG 4 g = hk.obs s := by
  have e : g = s.heap.get? := funext h
  rw [e]
  rfl
abbrev Rw : PySem.W.OpenRow := PySem.W.OpenLaw.row PySem.Challenge.rw_mostlaid_k01_exact_numbers
def ob (s : PySem.W.SharedT) : HA := obsG 4 (HandSHeadRun.getT s)
theorem ob_eq (s : PySem.W.SharedT) : ob s = hk.obs s.abs := obsG_eq (HandSHeadRun.getT_eq s)
def loose : List Str := (["Refused", "BadNumber", "MOST_DIGITS", "DIGITS", "BLOCK_DIGITS", "is_whole", "is_fraction", "is_number", "reduced", "pair", "has_digits", "read_number", "exact", "plus", "minus", "times", "over", "below", "compare", "least"] : List Str) ++ (["greatest_of", "sort_keys", "in_order", "whole_text", "number_text", "_law_bag", "_law_draw", "_law_of", "_law_like", "_law_low", "_law_under", "_law_add", "_law_take", "_law_mul", "_law_sorted", "_law_number", "_law_handed", "_law_drawn", "_law_text", "_law_good"] : List Str) ++ (["_law_near_text", "_law_near", "_law_refused", "_law_over_none", "_law_step", "_law_runs", "_law_lists", "_law_is_own"] : List Str)
theorem run (w : World) : HandSHeadRun.RunEqI Rw (PySem.W.view Rw.prog [0, 52]) hk ob 9000 loose w := by
  unfold HandSHeadRun.RunEqI
  kernel_rfl
abbrev vw : Program := PySem.W.view Rw.prog [0, 52]
abbrev dl := HandSHeadRun.topDef Rw.prog 52
theorem hd1 : PySem.W.defOf vw Rw.name = some (dl, []) := by kernel_rfl
theorem hd2 : Rw.prog.theDef Rw.name = some (dl.params, dl.body, dl.scope) := by kernel_rfl
theorem hd3 : PySem.W.kwWritten? dl.params.kwonlyargs dl.params.kw_defaults = some [] := by kernel_rfl
theorem hd4 : dl.name = ("law" : PySem.Str) := by kernel_rfl
end Ko

/-! Mathematics of exact numbers: plain Lean, no Python -/
namespace Xm
abbrev Pq := Int × Int
def low (n d : Int) : Pq := (n / (Int.gcd n d : Int), d / (Int.gcd n d : Int))
/-- in lowest terms, the denominator above 0 -/
def Lo (q : Pq) : Prop := 0 < q.2 ∧ Int.gcd q.1 q.2 = 1
def red (n d : Int) : Pq := if d < 0 then low (-n) (-d) else low n d
theorem gcd_pos {n d : Int} (h : d ≠ 0) : 0 < (Int.gcd n d : Int) := by
  have : Int.gcd n d ≠ 0 := fun e => h (Int.gcd_eq_zero_iff.mp e).2
  omega
theorem low_one {n d : Int} (h : Int.gcd n d = 1) : low n d = (n, d) := by
  unfold low; rw [h]; simp
theorem low_den {n : Int} : low n 1 = (n, 1) := low_one (by simp [Int.gcd])
theorem low_mul {n d : Int} (h : d ≠ 0) : (low n d).1 * (Int.gcd n d : Int) = n ∧ (low n d).2 * (Int.gcd n d : Int) = d :=
  ⟨Int.ediv_mul_cancel (Int.gcd_dvd_left ..), Int.ediv_mul_cancel (Int.gcd_dvd_right ..)⟩
theorem low_lo {n d : Int} (h : 0 < d) : Lo (low n d) := by
  have g := gcd_pos (n := n) (d := d) (by omega)
  have ⟨h1, h2⟩ := low_mul (n := n) (d := d) (by omega)
  refine ⟨?_, ?_⟩
  · rcases Int.lt_trichotomy 0 (low n d).2 with c | c | c
    · exact c
    · rw [← c] at h2; omega
    · have := Int.mul_neg_of_neg_of_pos c g; omega
  · show Int.gcd (n / (Int.gcd n d : Int)) (d / (Int.gcd n d : Int)) = 1
    exact Int.gcd_ediv_gcd_ediv_gcd (by omega)
/-- the same value -/
def Eqv (p q : Pq) : Prop := p.1 * q.2 = q.1 * p.2
theorem low_val {n d : Int} (h : d ≠ 0) : (low n d).1 * d = n * (low n d).2 := by
  have ⟨h1, h2⟩ := low_mul (n := n) (d := d) h
  generalize (low n d).1 = a at *
  generalize (low n d).2 = b at *
  generalize (Int.gcd n d : Int) = g at *
  subst h1 h2
  grind
theorem lo_unique {p q : Pq} (hp : Lo p) (hq : Lo q) (h : p.1 * q.2 = q.1 * p.2) : p = q := by
  obtain ⟨a, b⟩ := p
  obtain ⟨c, d⟩ := q
  obtain ⟨b0, gp⟩ := hp
  obtain ⟨d0, gq⟩ := hq
  dsimp only at *
  have dv : ∀ {x y z : Int}, Int.gcd x y = 1 → y ∣ x * z → y ∣ z := fun {x y z} g d => by
    have h1 : y.natAbs ∣ x.natAbs * z.natAbs := by rw [← Int.natAbs_mul]; exact Int.natAbs_dvd_natAbs.mpr d
    exact Int.natAbs_dvd_natAbs.mp (Nat.Coprime.dvd_of_dvd_mul_left (Nat.Coprime.symm g) h1)
  have h1 : b ∣ d := dv gp ⟨c, by rw [h]; exact Int.mul_comm ..⟩
  have h2 : d ∣ b := dv gq ⟨a, by rw [← h]; exact Int.mul_comm ..⟩
  have e : b = d := Int.dvd_antisymm (by omega) (by omega) h1 h2
  subst e
  have : a = c := Int.eq_of_mul_eq_mul_right (by omega) h
  rw [this]
theorem low_low {q : Pq} (h : Lo q) : low q.1 q.2 = q := by rw [low_one h.2]
theorem lo_int (n : Int) : Lo (n, 1) := ⟨by show (0:Int) < 1; omega, by show Int.gcd n 1 = 1; simp [Int.gcd]⟩
theorem natAbs_ediv_le (n : Int) {g : Int} (h : 0 < g) (d : g ∣ n) : (n / g).natAbs ≤ n.natAbs := by
  obtain ⟨k, rfl⟩ := d
  rw [Int.mul_ediv_cancel_left _ (by omega), Int.natAbs_mul]
  exact Nat.le_mul_of_pos_left _ (by omega)
theorem low_le {n d : Int} (h : d ≠ 0) : (low n d).1.natAbs ≤ n.natAbs ∧ (low n d).2.natAbs ≤ d.natAbs :=
  ⟨natAbs_ediv_le n (gcd_pos h) (Int.gcd_dvd_left ..), natAbs_ediv_le d (gcd_pos h) (Int.gcd_dvd_right ..)⟩
theorem gcd_le {n d : Int} (h : d ≠ 0) : Int.gcd n d ≤ d.natAbs := Nat.gcd_le_right _ (by omega)
theorem red_lo {n d : Int} (h : d ≠ 0) : Lo (red n d) := by
  unfold red; split
  · exact low_lo (by omega)
  · exact low_lo (by omega)
/-! sums, differences, products, quotients -/
def add (p q : Pq) : Pq := low (p.1 * q.2 + q.1 * p.2) (p.2 * q.2)
def sub (p q : Pq) : Pq := low (p.1 * q.2 - q.1 * p.2) (p.2 * q.2)
def mul (p q : Pq) : Pq := low (p.1 * q.1) (p.2 * q.2)
def dv (p q : Pq) : Pq := red (p.1 * q.2) (p.2 * q.1)
def under (p q : Pq) : Bool := decide (p.1 * q.2 < q.1 * p.2)
theorem mul_pos' {a b : Int} (h : 0 < a) (k : 0 < b) : 0 < a * b := Int.mul_pos h k
theorem red_pos {n d : Int} (h : 0 < d) : red n d = low n d := by unfold red; rw [if_neg (by omega)]
theorem add_int (a b : Int) : add (a, 1) (b, 1) = (a + b, 1) := by
  unfold add; simp only [Int.mul_one]; exact low_den
theorem sub_int (a b : Int) : sub (a, 1) (b, 1) = (a - b, 1) := by
  unfold sub; simp only [Int.mul_one]; exact low_den
theorem dv_turn {p q : Pq} (h : q.1 ≠ 0) (hq : 0 < q.2) (hp : 0 < p.2) : dv p q = mul p (if 0 < q.1 then (q.2, q.1) else (-q.2, -q.1)) := by
  unfold dv mul
  split
  · rename_i c
    rw [red_pos (mul_pos' hp c)]
  · rename_i c
    have : p.2 * q.1 < 0 := Int.mul_neg_of_pos_of_neg hp (by omega)
    unfold red; rw [if_pos this]
    show low (-(p.1 * q.2)) (-(p.2 * q.1)) = low (p.1 * -q.2) (p.2 * -q.1)
    rw [Int.mul_neg, Int.mul_neg]
/-! the order -/
theorem under_irr (p : Pq) : under p p = false := by unfold under; simp
theorem under_trans {p q r : Pq} (hp : 0 < p.2) (hq : 0 < q.2) (hr : 0 < r.2) (h1 : under p q = true) (h2 : under q r = true) : under p r = true := by
  unfold under at *
  have h1 := of_decide_eq_true h1
  have h2 := of_decide_eq_true h2
  refine decide_eq_true ?_
  have a1 : p.1 * q.2 * r.2 < q.1 * p.2 * r.2 := Int.mul_lt_mul_of_pos_right h1 hr
  have a2 : q.1 * r.2 * p.2 < r.1 * q.2 * p.2 := Int.mul_lt_mul_of_pos_right h2 hp
  have e1 : q.1 * p.2 * r.2 = q.1 * r.2 * p.2 := by grind
  have a3 : (p.1 * r.2) * q.2 < (r.1 * p.2) * q.2 := by
    have b1 : p.1 * q.2 * r.2 = (p.1 * r.2) * q.2 := by grind
    have b2 : r.1 * q.2 * p.2 = (r.1 * p.2) * q.2 := by grind
    omega
  exact Int.lt_of_mul_lt_mul_right a3 (by omega)
theorem under_tri {p q : Pq} (hp : Lo p) (hq : Lo q) (h1 : under p q = false) (h2 : under q p = false) : p = q := by
  unfold under at *
  have h1 := of_decide_eq_false h1
  have h2 := of_decide_eq_false h2
  exact lo_unique hp hq (by omega)
theorem under_asym {p q : Pq} (h1 : under p q = true) : under q p = false := by
  unfold under at *
  have h1 := of_decide_eq_true h1
  refine decide_eq_false (by omega)
/-! keys of the order -/
def key (m : Int) (q : Pq) : Int := (q.1 * (m * m)) / q.2
theorem key_lt {m : Int} {p q : Pq} (hp : 0 < p.2) (hq : 0 < q.2) (lp : p.2 ≤ m) (lq : q.2 ≤ m) (h : under p q = true) : key m p < key m q := by
  unfold under at h
  have h := of_decide_eq_true h
  have hm : 0 < m := by omega
  have hmm : p.2 * q.2 ≤ m * m := Int.mul_le_mul lp lq (by omega) (by omega)
  unfold key
  -- (a s / b) + 1 ≤ c s / d
  have k1 : (p.1 * (m * m)) / p.2 * p.2 ≤ p.1 * (m * m) := Int.ediv_mul_le _ (by omega)
  generalize (p.1 * (m * m)) / p.2 = x at *
  suffices x + 1 ≤ (q.1 * (m * m)) / q.2 by omega
  refine (Int.le_ediv_iff_mul_le hq).mpr ?_
  -- (x+1) q2 ≤ q1 m m ; multiply by p2
  have : (x + 1) * q.2 * p.2 ≤ q.1 * (m * m) * p.2 := by
    have s1 : (x * p.2) * q.2 ≤ (p.1 * (m * m)) * q.2 := Int.mul_le_mul_of_nonneg_right k1 (by omega)
    have s2 : (p.1 * q.2 + 1) * (m * m) ≤ (q.1 * p.2) * (m * m) := Int.mul_le_mul_of_nonneg_right (by omega) (Int.le_of_lt (mul_pos' hm hm))
    have e1 : (x + 1) * q.2 * p.2 = (x * p.2) * q.2 + p.2 * q.2 := by grind
    have e2 : (p.1 * (m * m)) * q.2 + m * m = (p.1 * q.2 + 1) * (m * m) := by grind
    have e3 : q.1 * (m * m) * p.2 = (q.1 * p.2) * (m * m) := by grind
    omega
  exact Int.le_of_mul_le_mul_right this hp
theorem key_inj {m : Int} {p q : Pq} (hp : Lo p) (hq : Lo q) (lp : p.2 ≤ m) (lq : q.2 ≤ m) (h : key m p = key m q) : p = q := by
  refine under_tri hp hq ?_ ?_
  · cases c : under p q with
    | false => rfl
    | true => have := key_lt hp.1 hq.1 lp lq c; omega
  · cases c : under q p with
    | false => rfl
    | true => have := key_lt hq.1 hp.1 lq lp c; omega
theorem key_mono {m : Int} {p q : Pq} (hp : Lo p) (hq : Lo q) (lp : p.2 ≤ m) (lq : q.2 ≤ m) (h : key m p < key m q) : under p q = true := by
  cases c : under p q with
  | true => rfl
  | false =>
    cases d : under q p with
    | true => have := key_lt hq.1 hp.1 lq lp d; omega
    | false => rw [under_tri hp hq c d] at h; omega
/-! strictly ascending lists -/
def Asc (l : List Pq) : Prop := l.Pairwise fun p q => under p q = true
def ins (l : List Pq) (q : Pq) : List Pq := if q ∈ l then l else l.insertIdx ((l.filter fun p => under p q).length) q
def ord (l : List Pq) : List Pq := l.foldl ins []
theorem asc_unique : ∀ {l k : List Pq}, (∀ p ∈ l, Lo p) → (∀ p ∈ k, Lo p) → Asc l → Asc k → (∀ p, p ∈ l ↔ p ∈ k) → l = k
  | [], [], _, _, _, _, _ => rfl
  | [], q :: k, _, _, _, _, h => absurd ((h q).mpr (.head _)) (by simp)
  | p :: l, [], _, _, _, _, h => absurd ((h p).mp (.head _)) (by simp)
  | p :: l, q :: k, hl, hk, al, ak, h => by
    obtain ⟨a1, a2⟩ := List.pairwise_cons.mp al
    obtain ⟨b1, b2⟩ := List.pairwise_cons.mp ak
    have e : p = q := by
      rcases List.mem_cons.mp ((h p).mp (.head _)) with e | e
      · exact e
      rcases List.mem_cons.mp ((h q).mpr (.head _)) with e2 | e2
      · exact e2.symm
      have u1 := b1 _ e
      have u2 := a1 _ e2
      rw [under_asym u1] at u2
      cases u2
    subst e
    have : l = k := by
      refine asc_unique (fun x hx => hl x (.tail _ hx)) (fun x hx => hk x (.tail _ hx)) a2 b2 fun x => ?_
      constructor
      · intro hx
        rcases List.mem_cons.mp ((h x).mp (.tail _ hx)) with e | e
        · subst e
          have := a1 _ hx
          rw [under_irr] at this
          cases this
        · exact e
      · intro hx
        rcases List.mem_cons.mp ((h x).mpr (.tail _ hx)) with e | e
        · subst e
          have := b1 _ hx
          rw [under_irr] at this
          cases this
        · exact e
    rw [this]
theorem asc_split {q : Pq} (hq : Lo q) : ∀ {l : List Pq}, (∀ p ∈ l, Lo p) → Asc l → l.filter (fun p => under p q) ++ l.filter (fun p => !under p q) = l
  | [], _, _ => rfl
  | p :: l, hl, al => by
    obtain ⟨a1, a2⟩ := List.pairwise_cons.mp al
    have ih := asc_split hq (fun x hx => hl x (.tail _ hx)) a2
    cases c : under p q with
    | true =>
      rw [List.filter_cons_of_pos (by exact c), List.filter_cons_of_neg (by simp [c]), List.cons_append, ih]
    | false =>
      have e : l.filter (fun p => under p q) = [] := by
        rw [List.filter_eq_nil_iff]
        intro x hx u
        have := under_trans (hl p (.head _)).1 (hl x (.tail _ hx)).1 hq.1 (a1 x hx) u
        rw [c] at this
        cases this
      rw [List.filter_cons_of_neg (by simp [c]), List.filter_cons_of_pos (by simp [c]), e, List.nil_append]
      rw [e, List.nil_append] at ih
      rw [ih]
theorem insertIdx_app {α : Type} (a : α) : ∀ (l k : List α), (l ++ k).insertIdx l.length a = l ++ a :: k
  | [], k => by simp
  | x :: l, k => by
    show (x :: (l ++ k)).insertIdx (l.length + 1) a = _
    rw [List.insertIdx_succ_cons, insertIdx_app a l k]
    rfl
theorem ins_eq {q : Pq} (hq : Lo q) {l : List Pq} (hl : ∀ p ∈ l, Lo p) (al : Asc l) (h : q ∉ l) : ins l q = l.filter (fun p => under p q) ++ q :: l.filter (fun p => !under p q) := by
  unfold ins
  rw [if_neg h]
  conv => lhs; rw [← asc_split hq hl al]
  rw [List.filter_append, List.filter_filter, List.filter_filter]
  have e1 : l.filter (fun a => under a q && under a q) = l.filter (fun p => under p q) := by simp
  have e2 : l.filter (fun a => under a q && !under a q) = [] := by simp
  rw [e1, e2, List.append_nil]
  exact insertIdx_app q _ _
theorem ins_asc {q : Pq} (hq : Lo q) {l : List Pq} (hl : ∀ p ∈ l, Lo p) (al : Asc l) : Asc (ins l q) := by
  by_cases h : q ∈ l
  · unfold ins; rw [if_pos h]; exact al
  rw [ins_eq hq hl al h]
  refine List.pairwise_append.mpr ⟨al.filter _, List.pairwise_cons.mpr ⟨fun x hx => ?_, al.filter _⟩, fun x hx y hy => ?_⟩
  · obtain ⟨hx, u⟩ := List.mem_filter.mp hx
    cases c : under q x with
    | true => rfl
    | false =>
      have e := under_tri (hl x hx) hq (by simpa using u) c
      exact absurd (e ▸ hx) h
  · obtain ⟨hx, u⟩ := List.mem_filter.mp hx
    rcases List.mem_cons.mp hy with rfl | hy
    · exact u
    · obtain ⟨hy, u2⟩ := List.mem_filter.mp hy
      cases c : under q y with
      | true => exact under_trans (hl x hx).1 hq.1 (hl y hy).1 u c
      | false =>
        have e := under_tri (hl y hy) hq (by simpa using u2) c
        exact absurd (e ▸ hy) h
theorem ins_mem {q : Pq} {l : List Pq} {x : Pq} : x ∈ ins l q ↔ x = q ∨ x ∈ l := by
  unfold ins
  split
  · rename_i h
    constructor
    · exact Or.inr
    · rintro (rfl | hx)
      · exact h
      · exact hx
  · exact List.mem_insertIdx (List.length_filter_le ..)
theorem ord_ok : ∀ (l acc : List Pq), (∀ p ∈ l, Lo p) → (∀ p ∈ acc, Lo p) → Asc acc → Asc (l.foldl ins acc) ∧ ∀ x, x ∈ l.foldl ins acc ↔ x ∈ l ∨ x ∈ acc
  | [], acc, _, _, a => ⟨a, fun x => by simp⟩
  | q :: l, acc, hl, ha, a => by
    have hq := hl q (.head _)
    have ⟨i1, i2⟩ := ord_ok l (ins acc q) (fun x hx => hl x (.tail _ hx)) (fun x hx => (ins_mem.mp hx).elim (fun e => e ▸ hq) (ha x)) (ins_asc hq ha a)
    refine ⟨i1, fun x => ?_⟩
    rw [List.foldl_cons, i2, ins_mem, List.mem_cons]
    constructor
    · rintro (h | h | h)
      · exact .inl (.inr h)
      · exact .inl (.inl h)
      · exact .inr h
    · rintro ((h | h) | h)
      · exact .inr (.inl h)
      · exact .inl h
      · exact .inr (.inr h)
theorem ord_asc {l : List Pq} (hl : ∀ p ∈ l, Lo p) : Asc (ord l) := (ord_ok l [] hl (fun _ h => by cases h) .nil).1
theorem ord_mem {l : List Pq} (hl : ∀ p ∈ l, Lo p) (x : Pq) : x ∈ ord l ↔ x ∈ l := by
  rw [show (x ∈ ord l) ↔ _ from (ord_ok l [] hl (fun _ h => by cases h) .nil).2 x]
  simp
theorem ord_of {l k : List Pq} (hl : ∀ p ∈ l, Lo p) (hk : Asc k) (h : ∀ x, x ∈ k ↔ x ∈ l) : k = ord l :=
  asc_unique (fun p hp => hl p ((h p).mp hp)) (fun p hp => hl p ((ord_mem hl p).mp hp)) hk (ord_asc hl) fun x => by rw [h, ord_mem hl]
/-! the least, the greatest -/
def lst : List Pq → Pq → Pq := fun l b => l.foldl (fun b q => if under q b = true then q else b) b
def grt : List Pq → Pq → Pq := fun l b => l.foldl (fun b q => if under b q = true then q else b) b
theorem lst_ok : ∀ (l : List Pq) (b : Pq), (∀ p ∈ l, Lo p) → Lo b → (lst l b = b ∨ lst l b ∈ l) ∧ under b (lst l b) = false ∧ ∀ x ∈ l, under x (lst l b) = false
  | [], b, _, _ => ⟨.inl rfl, under_irr b, fun x h => by cases h⟩
  | q :: l, b, hl, hb => by
    have hq := hl q (.head _)
    have e : lst (q :: l) b = lst l (if under q b = true then q else b) := rfl
    rw [e]
    have hc : Lo (if under q b = true then q else b) := by split <;> assumption
    obtain ⟨h1, h2, h3⟩ := lst_ok l (if under q b = true then q else b) (fun x hx => hl x (.tail _ hx)) hc
    generalize hr : lst l (if under q b = true then q else b) = r at *
    have hrl : Lo r := by
      rcases h1 with e | e
      · rw [e]; exact hc
      · exact hl r (.tail _ e)
    have key : under q r = false ∧ under b r = false := by
      cases c : under q b with
      | true =>
        rw [if_pos c] at h2
        refine ⟨h2, ?_⟩
        cases d : under b r with
        | false => rfl
        | true => rw [under_trans hq.1 hb.1 hrl.1 c d] at h2; cases h2
      | false =>
        rw [if_neg (by rw [c]; simp)] at h2
        refine ⟨?_, h2⟩
        cases d : under q r with
        | false => rfl
        | true =>
          cases g : under r b with
          | true => rw [under_trans hq.1 hrl.1 hb.1 d g] at c; cases c
          | false => rw [under_tri hb hrl h2 g] at c; rw [c] at d; cases d
    refine ⟨?_, key.2, fun x hx => ?_⟩
    · rcases h1 with e | e
      · rw [e]
        split
        · exact .inr (.head _)
        · exact .inl rfl
      · exact .inr (.tail _ e)
    · rcases List.mem_cons.mp hx with rfl | hx
      · exact key.1
      · exact h3 x hx
theorem grt_ok : ∀ (l : List Pq) (b : Pq), (∀ p ∈ l, Lo p) → Lo b → (grt l b = b ∨ grt l b ∈ l) ∧ under (grt l b) b = false ∧ ∀ x ∈ l, under (grt l b) x = false
  | [], b, _, _ => ⟨.inl rfl, under_irr b, fun x h => by cases h⟩
  | q :: l, b, hl, hb => by
    have hq := hl q (.head _)
    have e : grt (q :: l) b = grt l (if under b q = true then q else b) := rfl
    rw [e]
    have hc : Lo (if under b q = true then q else b) := by split <;> assumption
    obtain ⟨h1, h2, h3⟩ := grt_ok l (if under b q = true then q else b) (fun x hx => hl x (.tail _ hx)) hc
    generalize hr : grt l (if under b q = true then q else b) = r at *
    have hrl : Lo r := by
      rcases h1 with e | e
      · rw [e]; exact hc
      · exact hl r (.tail _ e)
    have key : under r q = false ∧ under r b = false := by
      cases c : under b q with
      | true =>
        rw [if_pos c] at h2
        refine ⟨h2, ?_⟩
        cases d : under r b with
        | false => rfl
        | true => rw [under_trans hrl.1 hb.1 hq.1 d c] at h2; cases h2
      | false =>
        rw [if_neg (by rw [c]; simp)] at h2
        refine ⟨?_, h2⟩
        cases d : under r q with
        | false => rfl
        | true =>
          cases g : under b r with
          | true => rw [under_trans hb.1 hrl.1 hq.1 g d] at c; cases c
          | false => rw [under_tri hb hrl g h2] at c; rw [c] at d; cases d
    refine ⟨?_, key.2, fun x hx => ?_⟩
    · rcases h1 with e | e
      · rw [e]
        split
        · exact .inr (.head _)
        · exact .inl rfl
      · exact .inr (.tail _ e)
    · rcases List.mem_cons.mp hx with rfl | hx
      · exact key.1
      · exact h3 x hx
theorem lst_ord {b : Pq} {l : List Pq} (hl : ∀ p ∈ b :: l, Lo p) : (ord (b :: l))[0]? = some (lst (b :: l) b) := by
  have hb := hl b (.head _)
  obtain ⟨h1, h2, h3⟩ := lst_ok (b :: l) b hl hb
  have hm : lst (b :: l) b ∈ ord (b :: l) := (ord_mem hl _).mpr (h1.elim (fun e => by rw [e]; exact .head _) id)
  have ha := ord_asc hl
  cases ho : ord (b :: l) with
  | nil => rw [ho] at hm; cases hm
  | cons x k =>
    have hx : x ∈ b :: l := (ord_mem hl x).mp (by rw [ho]; exact .head _)
    rw [ho] at hm ha
    show some x = _
    rcases List.mem_cons.mp hm with e | e
    · rw [e]
    · have := (List.pairwise_cons.mp ha).1 _ e
      rw [h3 x hx] at this
      cases this
theorem grt_ord {b : Pq} {l : List Pq} (hl : ∀ p ∈ b :: l, Lo p) : (ord (b :: l)).getLast? = some (grt (b :: l) b) := by
  have hb := hl b (.head _)
  obtain ⟨h1, h2, h3⟩ := grt_ok (b :: l) b hl hb
  have hm : grt (b :: l) b ∈ ord (b :: l) := (ord_mem hl _).mpr (h1.elim (fun e => by rw [e]; exact .head _) id)
  have ha := ord_asc hl
  have hmm := fun x => ord_mem hl x
  generalize ord (b :: l) = k at *
  rcases List.eq_nil_or_concat k with rfl | ⟨k', x, rfl⟩
  · cases hm
  · have hx : x ∈ b :: l := (hmm x).mp (by simp)
    simp only [List.concat_eq_append] at *
    rw [List.getLast?_append]
    simp only [List.getLast?_singleton, Option.some_or]
    rcases List.mem_append.mp hm with e | e
    · have := (List.pairwise_append.mp ha).2.2 _ e x (by simp)
      rw [h3 x hx] at this
      cases this
    · rw [List.mem_singleton.mp e]
end Xm

/-! Readings taken apart step by step: one lemma for each construct, a driver -/
namespace Ko
open PySem L2 PySem.Spec PyProof.Rows
abbrev Fg := PySem.W.Frag
abbrev Sg := L2.St
/-! expressions -/
section
variable {σ : Sg} {H : Hp} {Q : VK} {v x y : V} {i j : Nat} {ta tb te : TE} {K : Fg}
theorem g_var (h : σ[i]? = some (some v)) (q : Q v H) : tVar i σ H Q := ⟨v, h, q⟩
theorem g_c (q : Q v H) : tC v σ H Q := q
theorem g_op {r : R2} (q : ta σ H fun x H1 => tb σ H1 fun y H2 => r x y H2 Q) : tOp r ta tb σ H Q := q
theorem g_un {r : V → Hp → VK → Prop} (q : ta σ H fun x H1 => r x H1 Q) : tUn r ta σ H Q := q
theorem g_rI0 {g : Int → Int → V} {a b : Int} (q : Q (g a b) H) : rI0 g (.int a) (.int b) H Q := ⟨a, b, rfl, rfl, q⟩
theorem g_rI {C : Int → Int → Prop} {g : Int → Int → V} {a b : Int} (q : Q (g a b) H) (c : C a b) : rI C g (.int a) (.int b) H Q := ⟨a, b, rfl, rfl, c, q⟩
theorem g_rU {g : Int → V} {a : Int} (q : Q (g a) H) : rU g (.int a) H Q := ⟨a, rfl, q⟩
theorem g_cb {r : List V → Hp → VK → Prop} {t : TA} (q : t σ H fun vs H1 => r vs H1 Q) : tCB r t σ H Q := q
theorem g_call {sp : Sp} {E : XK} {t : TA} (q : t σ H fun vs H1 => sp vs H1 Q E) : tCall sp [] E t σ H Q := by
  show t σ H fun vs H1 => sp (vs ++ []) H1 Q E
  simpa using q
theorem g_nil {Q : List V → Hp → Prop} (q : Q [] H) : tNil σ H Q := q
theorem g_cons {tr : TA} {Q : List V → Hp → Prop} (q : ta σ H fun x H1 => tr σ H1 fun xs H2 => Q (x :: xs) H2) : tCons ta tr σ H Q := q
theorem g_tup {t : TA} (q : t σ H fun xs H1 => xs.length ≤ sizeLine ∧ ∀ p, H1 p = none → Q (.ref p) (upd H1 p (.tup xs))) : tTup t σ H Q := q
theorem g_lst {t : TA} (q : t σ H fun xs H1 => xs.length ≤ sizeLine ∧ ∀ p, H1 p = none → Q (.ref p) (upd H1 p (.lst xs))) : tLst t σ H Q := q
theorem small_line {n : Nat} (h : n ≤ 100000) : n ≤ sizeLine := Nat.le_trans h (by rw [sizeLine_eq]; decide)
theorem g_new {xs : List V} {P : Prop} (h : xs.length ≤ 100000) (q : P) : xs.length ≤ sizeLine ∧ P := ⟨small_line h, q⟩
/-! tests -/
variable {R : Bool → Hp → Prop} {t u : TT} {b : Bool}
theorem g_test (q : te σ H fun x H' => ∃ k, x = .bl k ∧ R k H') : tTest te σ H R := q
theorem g_B (q : te σ H fun x H' => ∃ k, x = .bl k ∧ R k H') : tB te σ H R := q
theorem g_bl (q : R b H) : ∃ k, V.bl b = .bl k ∧ R k H := ⟨b, rfl, q⟩
theorem g_and (q : t σ H fun c H1 => if c = true then u σ H1 R else R false H1) : tAnd t u σ H R := q
theorem g_or (q : t σ H fun c H1 => if c = true then R true H1 else u σ H1 R) : tOr t u σ H R := q
theorem g_not (q : t σ H fun c H1 => R (!c) H1) : tNot t σ H R := q
theorem g_andV (q : ta σ H fun x H1 => ∃ c, x = .bl c ∧ if c = true then tb σ H1 Q else Q (.bl false) H1) : tAndV ta tb σ H Q := q
theorem g_orV (q : ta σ H fun x H1 => ∃ c, x = .bl c ∧ if c = true then Q (.bl true) H1 else tb σ H1 Q) : tOrV ta tb σ H Q := q
theorem g_notV (q : ta σ H fun x H1 => ∃ c, x = .bl c ∧ Q (.bl (!c)) H1) : tNotV ta σ H Q := q
theorem g_if (q : t σ H fun c H1 => if c = true then ta σ H1 Q else tb σ H1 Q) : tIf t ta tb σ H Q := q
theorem g_blI {A B : Prop} (q : if b = true then A else B) : ∃ c, V.bl b = .bl c ∧ if c = true then A else B := ⟨b, rfl, q⟩
theorem g_blF {f : Bool → Prop} (q : f b) : ∃ c, V.bl b = .bl c ∧ f c := ⟨b, rfl, q⟩
theorem g_blQ {f : Bool → V} (q : Q (f b) H) : ∃ c, V.bl b = .bl c ∧ Q (f c) H := ⟨b, rfl, q⟩
/-! statements -/
variable {D : Ends} {s1 s2 : TS} {tg : TG}
theorem g_next (q : D.nx σ H) : tNext D σ H := q
theorem g_seq (q : s1 { D with nx := s2 D } σ H) : tSeq s1 s2 D σ H := q
theorem g_asg (q : te σ H fun x H1 => tg x σ H1 D.nx) : tAsg te tg D σ H := q
theorem g_name {N : Sg → Hp → Prop} (q : N (σ.set i (some v)) H) : gName i v σ H N := q
theorem g_ret (q : te σ H D.rt) : tRet te D σ H := q
theorem g_retN (q : D.rt .non H) : tRetN D σ H := q
theorem g_drop (q : te σ H fun _ H1 => D.nx σ H1) : tDrop te D σ H := q
theorem g_ifS (q : t σ H fun c H1 => if c = true then s1 D σ H1 else s2 D σ H1) : tIfS t s1 s2 D σ H := q
theorem g_par {a : TA} (q : a σ H fun vs H1 => ∃ v w, vs = [v, w] ∧ D.nx ((σ.set i (some v)).set j (some w)) H1) : tPar i j a D σ H := q
theorem g_parE {v w : V} {f : V → V → Prop} (q : f v w) : ∃ v' w', [v, w] = [v', w'] ∧ f v' w' := ⟨v, w, rfl, q⟩
theorem g_eq (q : Q (.bl (decide (x = y))) H) (h : scal x y = true) : rEq x y H Q := ⟨h, q⟩
theorem g_ne (q : Q (.bl (!decide (x = y))) H) (h : scal x y = true) : rNe x y H Q := ⟨h, q⟩
/-! what stands in the heap -/
theorem sq_t {H H' : Hp} (s : Same H H') {a : Addr} {xs : List V} (h : SqT K H a xs) : SqT K H' a xs := Evl_t s h
  where Evl_t {H H' : Hp} (s : Same H H') {a : Addr} {xs : List V} (h : SqT K H a xs) : SqT K H' a xs := by
          rcases h with (h | ⟨o, h⟩) | h
          · exact .inl (.inl (s _ _ h))
          · exact .inl (.inr ⟨o, s _ _ h⟩)
          · exact .inr h
theorem sq_l {H H' : Hp} (s : Same H H') {a : Addr} {xs : List V} (h : SqL K H a xs) : SqL K H' a xs := by
  rcases h with (h | ⟨o, h⟩) | h
  · exact .inl (.inl (s _ _ h))
  · exact .inl (.inr ⟨o, s _ _ h⟩)
  · exact .inr h
theorem same_new {p : Addr} {o : HO} (n : H p = none) : Same H (upd H p o) := Same.new (Same.refl H) n
end

theorem cxK {CX : CXT} {P : Program} {w : World} {K : Fg} {mg : Str → Option Value} {base : Heap} {N : List Str} {qual : Str} {scope : Scope} {f : Addr} {cd : Value} {A : Around} {outer : List Env} {s : Shared} {H : Hp} {E : XK} :
    (cxOf CX P w K mg base N qual scope f cd A outer s H E).nox.K = K := rfl
theorem cxK' {CX : CXT} {P : Program} {w : World} {K : Fg} {mg : Str → Option Value} {base : Heap} {N : List Str} {qual : Str} {scope : Scope} {f : Addr} {cd : Value} {A : Around} {outer : List Env} {s : Shared} {H : Hp} {E : XK} :
    (cxOf CX P w K mg base N qual scope f cd A outer s H E).K = K := rfl
theorem iteDT {A B p : Prop} [Decidable p] (h : p) (q : A) : if decide p = true then A else B := by
  rw [decide_eq_true h]
  exact iteT q
theorem iteDF {A B p : Prop} [Decidable p] (h : ¬ p) (q : B) : if decide p = true then A else B := by
  rw [decide_eq_false h]
  exact iteF q
theorem iteBT {A B : Prop} {b : Bool} (h : b = true) (q : A) : if b = true then A else B := by
  rw [h]
  exact iteT q
theorem iteBF {A B : Prop} {b : Bool} (h : b = false) (q : B) : if b = true then A else B := by
  rw [h]
  exact iteF q
theorem iteNT {A B p : Prop} [Decidable p] (h : p) (q : B) : if (!decide p) = true then A else B := by
  rw [decide_eq_true h]
  exact iteF q
theorem iteNF {A B p : Prop} [Decidable p] (h : ¬ p) (q : A) : if (!decide p) = true then A else B := by
  rw [decide_eq_false h]
  exact iteT q
/-! named readings of operators and built-ins -/
def rgIsN : R2 := fun x y H Q => y = .non ∧ Q (.bl (decide (x = .non))) H
def rgNotN : R2 := fun x y H Q => y = .non ∧ Q (.bl (!decide (x = .non))) H
theorem og_isN {X : Cx} : OpR X (compareOp .Is) rgIsN := op_isN
theorem og_notN {X : Cx} : OpR X (compareOp .IsNot) rgNotN := op_notN
def rgLen (K : Fg) : List V → Hp → VK → Prop := fun xs H Q => ∃ x n, xs = [x] ∧ LenV K x H n ∧ Q (.int n) H
theorem cg_len {X : Cx} : CallR X (.builtin "len") (rgLen X.K) := call_len
def rgAbs : List V → Hp → VK → Prop := fun xs H Q => ∃ i, xs = [.int i] ∧ Q (.int (if i < 0 then -i else i)) H
theorem cg_abs {X : Cx} : CallR X (.builtin "abs") rgAbs := call_abs
def rgInt : List V → Hp → VK → Prop := fun xs H Q => (∃ i, xs = [.int i] ∧ Q (.int i) H) ∨ ∃ k, xs = [.bl k] ∧ Q (.int (if k then 1 else 0)) H
theorem cg_int {X : Cx} : CallR X (.type "int") rgInt := call_int1
def rgStr : List V → Hp → VK → Prop := fun xs H Q => ∃ i, xs = [.int i] ∧ i.natAbs.log2 < 1920 ∧ Q (.str (toString i)) H
theorem cg_str {X : Cx} : CallR X (.type "str") rgStr := call_str_int
def rgIsi (K : Fg) : List V → Hp → VK → Prop := rIsi K
theorem cg_isi {X : Cx} : CallR X (.builtin "isinstance") (rgIsi X.K) := call_isi
def rgIsiT (K : Fg) : List V → Hp → VK → Prop := rIsiT K
theorem cg_isiT {X : Cx} : CallR X (.builtin "isinstance") (rgIsiT X.K) := call_isiT
def rgAddS : R2 := fun x y H Q => ∃ i j, x = .str i ∧ y = .str j ∧ i.length + j.length ≤ sizeLine ∧ Q (.str (i ++ j)) H
theorem op_add_s {X : Cx} : OpR X (binaryOp .Add) rgAddS := op_add_str
def rgInS : R2 := fun x y H Q => ∃ (c : Nat) (z : Str), x = .str ⟨#[c]⟩ ∧ y = .str z ∧ Q (.bl (decide (c ∈ z.cps.toList))) H
theorem op_inS {X : Cx} : OpR X (compareOp .In) rgInS := op_in_sign
section
variable {H : Hp} {Q : VK} {x v : V} {a : Addr} {xs : List V} {K : Fg} {i : Int} {b : Bool}
theorem g_isN0 (q : Q (.bl true) H) : rgIsN .non .non H Q := ⟨rfl, q⟩
theorem g_isN1 (q : Q (.bl false) H) (h : x ≠ .non) : rgIsN x .non H Q := ⟨rfl, by rw [decide_eq_false h]; exact q⟩
theorem g_notN0 (q : Q (.bl false) H) : rgNotN .non .non H Q := ⟨rfl, q⟩
theorem g_notN1 (q : Q (.bl true) H) (h : x ≠ .non) : rgNotN x .non H Q := ⟨rfl, by rw [decide_eq_false h]; exact q⟩
theorem g_lenL (q : Q (.int xs.length) H) (h : SqL K H a xs) : rgLen K [.ref a] H Q := ⟨_, xs.length, rfl, .inl ⟨xs, h, rfl⟩, q⟩
theorem g_lenT (q : Q (.int xs.length) H) (h : SqT K H a xs) : rgLen K [.ref a] H Q := ⟨_, xs.length, rfl, .inr ⟨xs, h, rfl⟩, q⟩
theorem g_lenS {z : Str} (q : Q (.int z.length) H) (h : z.length ≤ sizeLine) : rgLen K [.str z] H Q := ⟨_, z.length, rfl, ⟨h, rfl⟩, q⟩
theorem g_abs (q : Q (.int (if i < 0 then -i else i)) H) : rgAbs [.int i] H Q := ⟨i, rfl, q⟩
theorem g_int (q : Q (.int i) H) : rgInt [.int i] H Q := .inl ⟨i, rfl, q⟩
theorem g_intB (q : Q (.int (if b then 1 else 0)) H) : rgInt [.bl b] H Q := .inr ⟨b, rfl, q⟩
theorem g_str (q : Q (.str (toString i)) H) (h : i.natAbs.log2 < 1920) : rgStr [.int i] H Q := ⟨i, rfl, h, q⟩
theorem g_gcd {n m : Int} (q : Q (.int (Int.gcd n m : Nat)) H) : rGcd [.int n, .int m] H Q := ⟨n, m, rfl, q⟩
theorem g_addS {y z : Str} (q : Q (.str (y ++ z)) H) (h : y.length + z.length ≤ sizeLine) : rgAddS (.str y) (.str z) H Q := ⟨y, z, rfl, rfl, h, q⟩
theorem g_inS {c : Nat} {z : Str} (q : Q (.bl (decide (c ∈ z.cps.toList))) H) : rgInS (.str ⟨#[c]⟩) (.str z) H Q := ⟨c, z, rfl, rfl, q⟩
theorem g_ixL (q : Q v H) (h : SqL K H a xs) (e : atI xs i = some v) : rIx K (.ref a) (.int i) H Q := .inl ⟨a, xs, i, v, rfl, rfl, h, e, q⟩
theorem g_ixT (q : Q v H) (h : SqT K H a xs) (e : atI xs i = some v) : rIx K (.ref a) (.int i) H Q := .inr (.inl ⟨a, xs, i, v, rfl, rfl, h, e, q⟩)
theorem g_ixS {z : Str} {c : Nat} (q : Q (.str ⟨#[c]⟩) H) (h : z.length ≤ sizeLine) (e : atI z.cps.toList i = some c) : rIx K (.str z) (.int i) H Q := .inr (.inr ⟨z, i, c, rfl, rfl, h, e, q⟩)
theorem g_all {bs : List Bool} (q : Q (.bl (bs.all id)) H) (h : SqL K H a (bs.map V.bl)) : rAll K [.ref a] H Q := ⟨a, bs, rfl, h, q⟩
/-! isinstance -/
variable {T : String}
theorem g_isi {t : Value} (q : Q (.bl b) H) (ht : TyX K H x t) (hb : PySem.W.kitOne K t (.type T) = some b) : rgIsi K [x, .ty T] H Q := ⟨x, .ty T, t, .type T, b, rfl, .ty T, ht, hb, q⟩
theorem g_isi_t (q : Q (.bl b) H) (ht : SqT K H a xs) (hb : kitB "tuple" T = some b) : rgIsi K [.ref a, .ty T] H Q := by
  have mk : ∀ {t : Value}, TyX K H (.ref a) t → t = .type "tuple" → rgIsi K [.ref a, .ty T] H Q := fun h e => by
    subst e
    exact g_isi q h (kit_ty hb)
  rcases ht with (h | ⟨o, h⟩) | ⟨o, its, n, hk, hc, hd, hs, hr⟩
  · exact mk (TyX.base (.tup h)) rfl
  · exact mk (TyX.fTuple h) rfl
  · exact mk (TyX.kTuple hk hc) rfl
theorem g_isi_l (q : Q (.bl b) H) (ht : SqL K H a xs) (hb : kitB "list" T = some b) (hl : H a = some (.lst xs)) : rgIsi K [.ref a, .ty T] H Q := g_isi q (TyX.base (.lst hl)) (kit_ty hb)
end
theorem kit_int_list : kitB "int" "list" = some false := by decide +kernel
theorem kit_int_tuple : kitB "int" "tuple" = some false := by decide +kernel
theorem kit_int_bool : kitB "int" "bool" = some false := by decide +kernel
theorem kit_int_str : kitB "int" "str" = some false := by decide +kernel
theorem kit_int_int : kitB "int" "int" = some true := by decide +kernel
theorem kit_str_list : kitB "str" "list" = some false := by decide +kernel
theorem kit_str_tuple : kitB "str" "tuple" = some false := by decide +kernel
theorem kit_str_bool : kitB "str" "bool" = some false := by decide +kernel
theorem kit_str_str : kitB "str" "str" = some true := by decide +kernel
theorem kit_str_int : kitB "str" "int" = some false := by decide +kernel
theorem kit_bool_list : kitB "bool" "list" = some false := by decide +kernel
theorem kit_bool_tuple : kitB "bool" "tuple" = some false := by decide +kernel
theorem kit_bool_bool : kitB "bool" "bool" = some true := by decide +kernel
theorem kit_bool_str : kitB "bool" "str" = some false := by decide +kernel
theorem kit_bool_int : kitB "bool" "int" = some true := by decide +kernel
theorem kit_NoneType_list : kitB "NoneType" "list" = some false := by decide +kernel
theorem kit_NoneType_tuple : kitB "NoneType" "tuple" = some false := by decide +kernel
theorem kit_NoneType_bool : kitB "NoneType" "bool" = some false := by decide +kernel
theorem kit_NoneType_str : kitB "NoneType" "str" = some false := by decide +kernel
theorem kit_NoneType_int : kitB "NoneType" "int" = some false := by decide +kernel
theorem kit_list_list : kitB "list" "list" = some true := by decide +kernel
theorem kit_list_tuple : kitB "list" "tuple" = some false := by decide +kernel
theorem kit_list_bool : kitB "list" "bool" = some false := by decide +kernel
theorem kit_list_str : kitB "list" "str" = some false := by decide +kernel
theorem kit_list_int : kitB "list" "int" = some false := by decide +kernel
theorem kit_tuple_list : kitB "tuple" "list" = some false := by decide +kernel
theorem kit_tuple_tuple : kitB "tuple" "tuple" = some true := by decide +kernel
theorem kit_tuple_bool : kitB "tuple" "bool" = some false := by decide +kernel
theorem kit_tuple_str : kitB "tuple" "str" = some false := by decide +kernel
theorem kit_tuple_int : kitB "tuple" "int" = some false := by decide +kernel
section
variable {H : Hp} {Q : VK} {K : Fg} {T : String} {b : Bool}
theorem g_isi_int {i : Int} (q : Q (.bl b) H) (hb : kitB "int" T = some b) : rgIsi K [.int i, .ty T] H Q := g_isi q (TyX.base (.int i)) (kit_ty hb)
theorem g_isi_str {z : Str} (q : Q (.bl b) H) (hb : kitB "str" T = some b) : rgIsi K [.str z, .ty T] H Q := g_isi q (TyX.base (.str z)) (kit_ty hb)
theorem g_isi_bl {c : Bool} (q : Q (.bl b) H) (hb : kitB "bool" T = some b) : rgIsi K [.bl c, .ty T] H Q := g_isi q (TyX.base (.bl c)) (kit_ty hb)
theorem g_isi_non (q : Q (.bl b) H) (hb : kitB "NoneType" T = some b) : rgIsi K [.non, .ty T] H Q := g_isi q (TyX.base .non) (kit_ty hb)
end
end Ko

/-! Values by what they are: data -/
namespace Ko
open PySem L2 PySem.Spec PyProof.Rows Xm
inductive Dt where
  | non | bl (b : Bool) | int (i : Int) | str (x : Str) | lst (l : List Dt) | tup (l : List Dt)
mutual
inductive Dq (H : Hp) : V → Dt → Prop where
  | non : Dq H .non .non
  | bl (b : Bool) : Dq H (.bl b) (.bl b)
  | int (i : Int) : Dq H (.int i) (.int i)
  | str (x : Str) : Dq H (.str x) (.str x)
  | lst {a : Addr} {xs : List V} {ds : List Dt} : H a = some (.lst xs) → DqAll H xs ds → Dq H (.ref a) (.lst ds)
  | tup {a : Addr} {xs : List V} {ds : List Dt} : H a = some (.tup xs) → DqAll H xs ds → Dq H (.ref a) (.tup ds)
inductive DqAll (H : Hp) : List V → List Dt → Prop where
  | nil : DqAll H [] []
  | cons {v : V} {vs : List V} {d : Dt} {ds : List Dt} : Dq H v d → DqAll H vs ds → DqAll H (v :: vs) (d :: ds)
end
mutual
theorem Dq.same {H H' : Hp} (s : Same H H') : ∀ {v : V} {d : Dt}, Dq H v d → Dq H' v d
  | _, _, .non => .non
  | _, _, .bl b => .bl b
  | _, _, .int i => .int i
  | _, _, .str x => .str x
  | _, _, .lst h r => .lst (s _ _ h) (DqAll.same s r)
  | _, _, .tup h r => .tup (s _ _ h) (DqAll.same s r)
theorem DqAll.same {H H' : Hp} (s : Same H H') : ∀ {vs : List V} {ds : List Dt}, DqAll H vs ds → DqAll H' vs ds
  | _, _, .nil => .nil
  | _, _, .cons h r => .cons (Dq.same s h) (DqAll.same s r)
end
theorem DqAll.length {H : Hp} : ∀ {vs : List V} {ds : List Dt}, DqAll H vs ds → vs.length = ds.length
  | _, _, .nil => rfl
  | _, _, .cons _ r => by rw [List.length_cons, List.length_cons, DqAll.length r]
theorem DqAll.at {H : Hp} : ∀ {vs : List V} {ds : List Dt} {i : Nat} {v : V}, DqAll H vs ds → vs[i]? = some v → ∃ d, ds[i]? = some d ∧ Dq H v d
  | _, _, _, _, .nil, h => by simp at h
  | _, _, 0, _, .cons q r, h => by
    simp only [List.getElem?_cons_zero] at h ⊢
    cases h
    exact ⟨_, rfl, q⟩
  | _, _, i + 1, _, .cons q r, h => by
    simp only [List.getElem?_cons_succ] at h ⊢
    exact DqAll.at r h
theorem DqAll.app {H : Hp} : ∀ {vs ws : List V} {ds es : List Dt}, DqAll H vs ds → DqAll H ws es → DqAll H (vs ++ ws) (ds ++ es)
  | _, _, _, _, .nil, r => r
  | _, _, _, _, .cons q r, r2 => .cons q (DqAll.app r r2)
mutual
def Dt.py : Dt → PyData
  | .non => .none
  | .bl b => .bool b
  | .int i => .int i
  | .str x => .str x
  | .lst l => .list (Dt.pys l)
  | .tup l => .tuple (Dt.pys l)
def Dt.pys : List Dt → List PyData
  | [] => []
  | d :: l => Dt.py d :: Dt.pys l
end
mutual
theorem Dq.dp {K : Fg} {H : Hp} : ∀ {v : V} {d : Dt}, Dq H v d → Dp K H v d.py
  | _, _, .non => by rw [Dt.py]; exact .non
  | _, _, .bl b => by rw [Dt.py]; exact .bl b
  | _, _, .int i => by rw [Dt.py]; exact .int i
  | _, _, .str x => by rw [Dt.py]; exact .str x
  | _, _, .lst h r => by rw [Dt.py]; exact .lst (SqL.of h) (DqAll.dp r)
  | _, _, .tup h r => by rw [Dt.py]; exact .tup (SqT.of h) (DqAll.dp r)
theorem DqAll.dp {K : Fg} {H : Hp} : ∀ {vs : List V} {ds : List Dt}, DqAll H vs ds → DpAll K H vs (Dt.pys ds)
  | _, _, .nil => by rw [Dt.pys]; exact .nil
  | _, _, .cons h r => by rw [Dt.pys]; exact .cons (Dq.dp h) (DqAll.dp r)
end
/-- a pair of ints -/
abbrev Dt.pq (q : Pq) : Dt := .tup [.int q.1, .int q.2]
/-- a number's tuple at an address; a number -/
def Pr (H : Hp) (v : V) (q : Pq) : Prop := ∃ a, v = .ref a ∧ H a = some (.tup [.int q.1, .int q.2])
def Nm (H : Hp) (v : V) (q : Pq) : Prop := Pr H v q ∨ (v = .int q.1 ∧ q.2 = 1)
section
variable {H H' : Hp} {v : V} {q : Pq} {a : Addr}
theorem Pr.same (s : Same H H') (h : Pr H v q) : Pr H' v q := by
  obtain ⟨a, e, h⟩ := h
  exact ⟨a, e, s _ _ h⟩
theorem Nm.same (s : Same H H') (h : Nm H v q) : Nm H' v q := h.elim (fun h => .inl (h.same s)) .inr
theorem Nm.of (h : H a = some (.tup [.int q.1, .int q.2])) : Nm H (.ref a) q := .inl ⟨a, rfl, h⟩
theorem Nm.ofPr (h : Pr H v q) : Nm H v q := .inl h
theorem Pr.of (h : H a = some (.tup [.int q.1, .int q.2])) : Pr H (.ref a) q := ⟨a, rfl, h⟩
theorem Pr.dq (h : Pr H v q) : Dq H v (.pq q) := by
  obtain ⟨a, rfl, h⟩ := h
  exact .tup h (.cons (.int _) (.cons (.int _) .nil))
end
/-- sizes -/
def Sz (b : Nat) (q : Pq) : Prop := q.1.natAbs < 2 ^ b ∧ q.2.natAbs < 2 ^ b
theorem Sz.up {a b : Nat} {q : Pq} (h : Sz a q) (l : a ≤ b) : Sz b q :=
  ⟨Nat.lt_of_lt_of_le h.1 (Nat.pow_le_pow_right (by decide) l), Nat.lt_of_lt_of_le h.2 (Nat.pow_le_pow_right (by decide) l)⟩
abbrev Ret (H : Hp) (Q : VK) (q : Pq) : Prop := ∀ t H', Same H H' → H' t = some (.tup [.int q.1, .int q.2]) → Q (.ref t) H'
def Dt.isInt : Dt → Bool
  | .int _ => true
  | _ => false
def Dt.isFrac : Dt → Bool
  | .tup [a, b] => a.isInt && b.isInt
  | _ => false
def Dt.isNum : Dt → Bool
  | .int _ => true
  | .tup [.int n, .int d] => decide (0 < d) && decide (Int.gcd n d = 1)
  | _ => false
end Ko

/-! Comprehensions whose elements change nothing that stands -/
namespace Ko
open PySem L2 PySem.Spec PyProof.Rows Xm
theorem paired_mono {α β : Type} {F F' : α → β → Prop} (hm : ∀ a b, F a b → F' a b) {l : List α} {k : List β} (h : Paired F l k) : Paired F' l k := by
  induction h with
  | nil => exact .nil
  | cons h _ ih => exact .cons (hm _ _ h) ih
theorem g_yes {σ : Sg} {H : Hp} {R : Bool → Hp → Prop} (q : R true H) : tYes σ H R := q
/-- all but D stands -/
abbrev But (D : Addr) (H H' : Hp) : Prop := ∀ a o, a ≠ D → H a = some o → H' a = some o
theorem lcW {J : It} {n : Nat} {G : Hp → Prop} {Y : Nat → Hp → V → Hp → Prop} (w : Walk J n G Y) {g : TG} {tt : TT} {te : TE} {vs : List Nat} {σ : Sg} {H1 : Hp} {D : Addr} {Qd : Hp → Prop} (nD : H1 D = none)
    (p : Nat → Bool) (F : Hp → Nat → V → Prop) (hn : n ≤ 100000) (hG : ∀ H2, Same H1 H2 → G H2) (mono : ∀ H H' k y, But D H H' → F H k y → F H' k y)
    (he : ∀ k x H2 H2', k < n → Same H1 H2 → (∃ acc, H2 D = some (.lst acc)) → Y k H2 x H2' → ∀ (Kt : VK) (Kf : Hp → Prop), (∀ y H5, Same H2 H5 → p k = true → F H5 k y → Kt y H5) → (∀ H5, Same H2 H5 → p k = false → Kf H5) →
      g x (wipe σ vs) H2' fun σ2 H3 => wipe σ2 vs = wipe σ vs ∧ tt σ2 H3 fun b H4 => if b = true then te σ2 H4 Kt else Kf H4)
    (q : ∀ H' ys, Same H1 H' → H' D = some (.lst ys) → Paired (F H') ((List.range n).filter p) ys → Qd H') :
    ∃ W : Nat → Nat → Hp → Prop, (∃ m, W 0 m (upd H1 D (.lst []))) ∧ ∀ i m H, W i m H →
      (J.stop i H ∧ Qd H) ∨ (J.go i H ∧ ∃ Nx : Hp → Prop, (∀ H', Nx H' → ∃ m', m' < m ∧ W (i + 1) m' H') ∧ ∀ x H', J.yld i H x H' → g x (wipe σ vs) H' fun σ2 H2 => wipe σ2 vs = wipe σ vs ∧ tt σ2 H2 fun b H3 =>
        if b = true then te σ2 H3 fun y H4 => ∃ acc, H4 D = some (.lst acc) ∧ acc.length < sizeLine ∧ Nx (upd H4 D (.lst (acc ++ [y]))) else Nx H3) := by
  refine lc_it w (fun i H => ∃ ys, H D = some (.lst ys) ∧ Same H1 H ∧ Paired (F H) ((List.range i).filter p) ys) ⟨[], upd_same, same_new nD, by exact .nil⟩ (fun i H _ h => ?_) (fun i x H H' hi h y => ?_) (fun H h => ?_)
  · obtain ⟨ys, _, s, _⟩ := h
    exact hG H s
  · obtain ⟨ys, hD, s, pr⟩ := h
    have lenY : ys.length ≤ i := by
      rw [← pr.length]
      exact Nat.le_trans (List.length_filter_le ..) (by simp)
    refine he i x H H' hi s ⟨ys, hD⟩ y _ _ (fun y H5 s3 eb f => ?_) (fun H5 s2 eb => ?_)
    · have but : But D H5 (upd H5 D (.lst (ys ++ [y]))) := fun a o h e => by
        rw [upd_ne h]
        exact e
      refine ⟨ys, s3 _ _ hD, Nat.lt_of_lt_of_le (show ys.length < 100000 + 1 by omega) (by rw [sizeLine_eq]; decide), ys ++ [y], upd_same, fun a o e => ?_, ?_⟩
      · rw [upd_ne (ne_of_none e nD)]
        exact s3 _ _ (s _ _ e)
      · rw [List.range_succ, List.filter_append, List.filter_cons_of_pos (by exact eb), List.filter_nil]
        exact Paired.snoc (paired_mono (fun k v h => mono _ _ _ _ but (mono _ _ _ _ (fun a o _ e => s3 _ _ e) h)) pr) (mono _ _ _ _ but f)
    · refine ⟨ys, s2 _ _ hD, s.trans s2, ?_⟩
      rw [List.range_succ, List.filter_append, List.filter_cons_of_neg (by rw [eb]; decide), List.filter_nil, List.append_nil]
      exact paired_mono (fun k v h => mono _ _ _ _ (fun a o _ e => s2 _ _ e) h) pr
  · obtain ⟨ys, hD, s, pr⟩ := h
    exact q H ys s hD pr
/-- all of n elements, each by its place; nothing is left out -/
theorem lcA {J : It} {n : Nat} {G : Hp → Prop} {Y : Nat → Hp → V → Hp → Prop} (w : Walk J n G Y) {g : TG} {te : TE} {vs : List Nat} {σ : Sg} {H1 : Hp} {D : Addr} {Qd : Hp → Prop} (nD : H1 D = none)
    (F : Hp → Nat → V → Prop) (hn : n ≤ 100000) (hG : ∀ H2, Same H1 H2 → G H2) (mono : ∀ H H' k y, But D H H' → F H k y → F H' k y)
    (he : ∀ k x H2 H2', k < n → Same H1 H2 → (∃ acc, H2 D = some (.lst acc)) → Y k H2 x H2' → ∀ (Kt : VK), (∀ y H5, Same H2 H5 → F H5 k y → Kt y H5) →
      g x (wipe σ vs) H2' fun σ2 H3 => wipe σ2 vs = wipe σ vs ∧ te σ2 H3 Kt)
    (q : ∀ H' ys, Same H1 H' → H' D = some (.lst ys) → ys.length = n → (∀ k v, ys[k]? = some v → F H' k v) → Qd H')
    (gm : ∀ x σ H (R R' : Sg → Hp → Prop), (∀ b H', R b H' → R' b H') → g x σ H R → g x σ H R') :
    ∃ W : Nat → Nat → Hp → Prop, (∃ m, W 0 m (upd H1 D (.lst []))) ∧ ∀ i m H, W i m H →
      (J.stop i H ∧ Qd H) ∨ (J.go i H ∧ ∃ Nx : Hp → Prop, (∀ H', Nx H' → ∃ m', m' < m ∧ W (i + 1) m' H') ∧ ∀ x H', J.yld i H x H' → g x (wipe σ vs) H' fun σ2 H2 => wipe σ2 vs = wipe σ vs ∧ tYes σ2 H2 fun b H3 =>
        if b = true then te σ2 H3 fun y H4 => ∃ acc, H4 D = some (.lst acc) ∧ acc.length < sizeLine ∧ Nx (upd H4 D (.lst (acc ++ [y]))) else Nx H3) := by
  refine lcW w nD (fun _ => true) F hn hG mono (fun k x H2 H2' hk s hD y Kt Kf ht hf => ?_) (fun H' ys s hD pr => ?_)
  · refine gm _ _ _ _ _ (fun σ2 H3 z => ⟨z.1, show (if true = true then te σ2 H3 Kt else Kf H3) from iteT z.2⟩) (he k x H2 H2' hk s hD y Kt fun y H5 s5 f => ht y H5 s5 rfl f)
  · rw [List.filter_eq_self.mpr (fun _ _ => rfl)] at pr
    have hl := pr.length
    rw [List.length_range] at hl
    refine q H' ys s hD hl.symm fun k v hv => ?_
    have gen : ∀ {l : List Nat} {ys : List V}, Paired (F H') l ys → ∀ (k : Nat) (v : V), ys[k]? = some v → ∃ i, l[k]? = some i ∧ F H' i v := by
      intro l ys pr
      induction pr with
      | nil => intro k v h; simp at h
      | cons h _ ih =>
        intro k v hv
        cases k with
        | zero => simp at hv; subst hv; exact ⟨_, rfl, h⟩
        | succ k => exact ih k v (by simpa using hv)
    obtain ⟨i, e, f⟩ := gen pr k v hv
    have e2 := List.getElem?_range (n := n) (i := k) (by
      rcases Nat.lt_or_ge k n with c | c
      · exact c
      · rw [List.getElem?_eq_none (by simpa using c)] at e
        cases e)
    rw [e2] at e
    cases e
    exact f
/-- the elements by their places alone -/
theorem lcV {J : It} {n : Nat} {G : Hp → Prop} {Y : Nat → Hp → V → Hp → Prop} (w : Walk J n G Y) {g : TG} {te : TE} {vs : List Nat} {σ : Sg} {H1 : Hp} {D : Addr} {Qd : Hp → Prop} (nD : H1 D = none)
    (f : Nat → V) (hn : n ≤ 100000) (hG : ∀ H2, Same H1 H2 → G H2)
    (he : ∀ k x H2 H2', k < n → Same H1 H2 → Y k H2 x H2' → ∀ (Kt : VK), (∀ H5, Same H2 H5 → Kt (f k) H5) → g x (wipe σ vs) H2' fun σ2 H3 => wipe σ2 vs = wipe σ vs ∧ te σ2 H3 Kt)
    (q : ∀ H', Same H1 H' → H' D = some (.lst ((List.range n).map f)) → Qd H')
    (gm : ∀ x σ H (R R' : Sg → Hp → Prop), (∀ b H', R b H' → R' b H') → g x σ H R → g x σ H R') :
    ∃ W : Nat → Nat → Hp → Prop, (∃ m, W 0 m (upd H1 D (.lst []))) ∧ ∀ i m H, W i m H →
      (J.stop i H ∧ Qd H) ∨ (J.go i H ∧ ∃ Nx : Hp → Prop, (∀ H', Nx H' → ∃ m', m' < m ∧ W (i + 1) m' H') ∧ ∀ x H', J.yld i H x H' → g x (wipe σ vs) H' fun σ2 H2 => wipe σ2 vs = wipe σ vs ∧ tYes σ2 H2 fun b H3 =>
        if b = true then te σ2 H3 fun y H4 => ∃ acc, H4 D = some (.lst acc) ∧ acc.length < sizeLine ∧ Nx (upd H4 D (.lst (acc ++ [y]))) else Nx H3) := by
  refine lcA w nD (fun _ k y => y = f k) hn hG (fun _ _ _ _ _ h => h) (fun k x H2 H2' hk s hD y Kt ht => he k x H2 H2' hk s y Kt fun H5 s5 => ht _ H5 s5 rfl) (fun H' ys s hD hl hv => ?_) gm
  refine q H' s ?_
  rw [hD]
  have e : ys = (List.range n).map f := by
    refine List.ext_getElem? fun k => ?_
    rcases Nat.lt_or_ge k n with c | c
    · rw [List.getElem?_map, List.getElem?_range c]
      have hk : k < ys.length := by omega
      rw [List.getElem?_eq_getElem hk]
      exact congrArg some (hv k _ (List.getElem?_eq_getElem hk))
    · rw [List.getElem?_eq_none (by omega), List.getElem?_eq_none (by simpa using c)]
  rw [e]
theorem range_map {α β : Type} (f : α → β) (xs : List α) (d : β) : (List.range xs.length).map (fun k => (xs[k]?.map f).getD d) = xs.map f := by
  refine List.ext_getElem? fun k => ?_
  rw [List.getElem?_map, List.getElem?_map]
  rcases Nat.lt_or_ge k xs.length with c | c
  · rw [List.getElem?_range c, Option.map_some, List.getElem?_eq_getElem c]
    rfl
  · rw [List.getElem?_eq_none (by simpa using c), List.getElem?_eq_none c]
    rfl
theorem g_lc {wi : TI} {g : TG} {tt : TT} {te : TE} {vs : List Nat} {σ : Sg} {H : Hp} {Q : VK} (q : wi σ H fun J H1 => ∀ D, H1 D = none → ∃ W : Nat → Nat → Hp → Prop, (∃ m, W 0 m (upd H1 D (.lst []))) ∧ ∀ i m H, W i m H →
  (J.stop i H ∧ Q (.ref D) H) ∨ (J.go i H ∧ ∃ Nx : Hp → Prop, (∀ H', Nx H' → ∃ m', m' < m ∧ W (i + 1) m' H') ∧ ∀ x H', J.yld i H x H' → g x (wipe σ vs) H' fun σ2 H2 => wipe σ2 vs = wipe σ vs ∧ tt σ2 H2 fun b H3 =>
    if b = true then te σ2 H3 fun y H4 => ∃ acc, H4 D = some (.lst acc) ∧ acc.length < sizeLine ∧ Nx (upd H4 D (.lst (acc ++ [y]))) else Nx H3)) : tLc wi g tt te vs σ H Q := q
theorem g_wipe {i : Nat} {v : V} {σ : Sg} {H : Hp} {vs : List Nat} {R : Sg → Hp → Prop} (e : wipe (σ.set i (some v)) vs = wipe σ vs) (q : R (σ.set i (some v)) H) : gName i v σ H fun σ2 H2 => wipe σ2 vs = wipe σ vs ∧ R σ2 H2 := ⟨e, q⟩
theorem gm_name {i : Nat} : ∀ x (σ : Sg) (H : Hp) (R R' : Sg → Hp → Prop), (∀ b H', R b H' → R' b H') → gName i x σ H R → gName i x σ H R' := fun x σ H R R' h q => h _ _ q
end Ko

/-! more readings taken apart: texts, slices, loops -/
namespace Ko
open PySem L2 PySem.Spec PyProof.Rows Xm
section
variable {σ : Sg} {H : Hp} {Q : VK} {v x y : V} {i : Nat} {ta tb tc te to : TE} {K : Fg}
theorem g_chain {r r' : R2} (q : ta σ H fun x H1 => tb σ H1 fun y H2 => r x y H2 fun z H3 => ∃ k, z = .bl k ∧ (if k = true then tc σ H3 fun w' H4 => r' y w' H4 Q else Q (.bl false) H3)) : tChain r r' ta tb tc σ H Q := q
/-! slices -/
theorem g_sl {r : V → Option Int → Option Int → Hp → VK → Prop} {tl th : TO} (q : te σ H fun x H1 => tl σ H1 fun l H2 => th σ H2 fun u H3 => r x l u H3 Q) : tSl r te tl th σ H Q := q
theorem g_noPart {R : Option Int → Hp → Prop} (q : R none H) : tNoPart σ H R := q
theorem g_part {R : Option Int → Hp → Prop} (q : te σ H fun x H1 => ∃ i, x = .int i ∧ R (some i) H1) : tPart te σ H R := q
theorem g_partI {j : Int} {f : Int → Prop} (q : f j) : ∃ i, V.int j = .int i ∧ f i := ⟨j, rfl, q⟩
theorem g_slS {z : Str} {lo hi : Option Int} (q : Q (.str (cutS z lo hi)) H) (h : z.length ≤ sizeLine) : rSlS (.str z) lo hi H Q := ⟨z, rfl, h, q⟩
theorem g_slL {a : Addr} {xs : List V} {lo hi : Option Int} (h : SqL K H a xs) (q : ∀ p, H p = none → Q (.ref p) (upd H p (.lst (cutV xs lo hi)))) : rSlL K (.ref a) lo hi H Q := ⟨a, xs, rfl, h, q⟩
/-! texts' methods -/
def rgSplit : V → List V → Hp → VK → Prop := fun x xs H Q => ∃ a b, x = .str a ∧ xs = [.str b] ∧ (b.length == 0) = false ∧ a.length + 2 ≤ sizeLine ∧ rNewStrs (Txt.split a b) H Q
def rgStarts : V → List V → Hp → VK → Prop := fun x xs H Q => ∃ a b, x = .str a ∧ xs = [.str b] ∧ Q (.bl (Txt.startswith a b)) H
def rgJoin (K : Fg) : V → List V → Hp → VK → Prop := fun x xs H Q => ∃ a p, ∃ ys : List Str, x = .str a ∧ xs = [.ref p] ∧ (SqL K H p (ys.map V.str) ∨ SqT K H p (ys.map V.str)) ∧ (ys.map (·.length)).sum + ys.length * a.length ≤ 16777216 ∧ Q (.str (Txt.join a ys)) H
theorem g_M1 {r : V → List V → Hp → VK → Prop} (q : to σ H fun x H1 => (∃ a, x = .str a) ∧ te σ H1 fun y H2 => r x [y] H2 Q) : tM1 r to te σ H Q := q
theorem g_M1s {z : Str} {P : Prop} (q : P) : (∃ a, V.str z = .str a) ∧ P := ⟨⟨z, rfl⟩, q⟩
theorem g_split {a b : Str} (q : ∀ p, H p = none → Q (.ref p) (upd H p (.lst ((Txt.split a b).map V.str)))) (hb : (b.length == 0) = false) (ha : a.length + 2 ≤ sizeLine) : rgSplit (.str a) [.str b] H Q := ⟨a, b, rfl, rfl, hb, ha, q⟩
theorem g_starts {a b : Str} (q : Q (.bl (Txt.startswith a b)) H) : rgStarts (.str a) [.str b] H Q := ⟨a, b, rfl, rfl, q⟩
theorem g_join {a : Str} {p : Addr} {ys : List Str} (q : Q (.str (Txt.join a ys)) H) (h : SqL K H p (ys.map V.str)) (hs : (ys.map (·.length)).sum + ys.length * a.length ≤ 16777216) : rgJoin K (.str a) [.ref p] H Q := ⟨a, p, ys, rfl, rfl, .inl h, hs, q⟩
theorem g_bm {T : String} {r : V → List V → Hp → VK → Prop} {t : TA} (q : to σ H fun x H1 => tyV K T x H1 ∧ t σ H1 fun xs H2 => r x xs H2 Q) : tBM K T r to t σ H Q := q
theorem g_bm0 {T : String} {r : V → List V → Hp → VK → Prop} (q : to σ H fun x H1 => tyV K T x H1 ∧ r x [] H1 Q) : tBM0 K T r to σ H Q := q
theorem g_tyL {a : Addr} {xs : List V} {P : Prop} (q : P) (h : SqL K H a xs) : tyV K "list" (.ref a) H ∧ P := ⟨.inl ⟨rfl, xs, h⟩, q⟩
theorem g_tyS {z : Str} {P : Prop} (q : P) : tyV K "str" (.str z) H ∧ P := ⟨rfl, q⟩
theorem g_append {a : Addr} {xs : List V} (q : Q .non (upd H a (.lst (xs ++ [y])))) (h : H a = some (.lst xs)) (hl : xs.length < sizeLine) : rAppend (.ref a) [y] H Q := ⟨a, xs, y, rfl, rfl, h, hl, q⟩
def rgInsert : V → List V → Hp → VK → Prop := fun x vs H Q => ∃ (l : Addr) (xs : List V) (i : Int) (y : V), x = .ref l ∧ vs = [.int i, y] ∧ H l = some (.lst xs) ∧ xs.length < sizeLine ∧ 0 ≤ i ∧ i < 2 ^ 63 ∧ Q .non (upd H l (.lst (xs.take i.toNat ++ [y] ++ xs.drop i.toNat)))
def rgZfill : V → List V → Hp → VK → Prop := fun x xs H Q => ∃ (a : Str) (i : Int), x = .str a ∧ xs = [.int i] ∧ PadOk i = true ∧ Q (.str (Txt.zfill a i)) H
/-! int of a text -/
def rgIntS : List V → Hp → VK → Prop := fun xs H Q => ∃ a n, xs = [.str a] ∧ PySem.intText? a = some n ∧ a.length ≤ 640 ∧ Q (.int n) H
theorem cg_intS {X : Cx} : CallR X (.type "int") rgIntS := call_int_str
theorem g_intS {a : Str} {n : Int} (q : Q (.int n) H) (h : PySem.intText? a = some n) (hl : a.length ≤ 640) : rgIntS [.str a] H Q := ⟨a, n, rfl, h, hl, q⟩
/-! f-strings -/
def tFs (ts : List TE) : TE := fun σ H Q => tJs ts Str.empty σ H fun out H1 => Q (.str out) H1
theorem g_Fs {ts : List TE} (q : tJs ts Str.empty σ H fun out H1 => Q (.str out) H1) : tFs ts σ H Q := q
theorem g_JsN {acc : Str} {R : Str → Hp → Prop} (q : R acc H) : tJs [] acc σ H R := q
theorem g_JsC {t : TE} {ts : List TE} {acc : Str} {R : Str → Hp → Prop} (q : t σ H fun x H1 => ∃ y : Str, x = .str y ∧ (acc ++ y).length ≤ sizeLine ∧ tJs ts (acc ++ y) σ H1 R) : tJs (t :: ts) acc σ H R := q
theorem g_JsE {acc z : Str} {ts : List TE} {R : Str → Hp → Prop} (q : tJs ts (acc ++ z) σ H R) (h : (acc ++ z).length ≤ sizeLine) : ∃ y : Str, V.str z = .str y ∧ (acc ++ y).length ≤ sizeLine ∧ tJs ts (acc ++ y) σ H R := ⟨z, rfl, h, q⟩
def rFmt : V → Hp → VK → Prop := fun x H1 Q => (∃ y : Str, x = .str y ∧ y.length ≤ sizeLine ∧ Q (.str y) H1) ∨ ∃ i : Int, x = .int i ∧ i.natAbs.log2 < 1920 ∧ Q (.str (toString i)) H1
theorem g_fmt (q : te σ H fun x H1 => rFmt x H1 Q) : tFmt te σ H Q := q
theorem g_fmtI {i : Int} (q : Q (.str (toString i)) H) (h : i.natAbs.log2 < 1920) : rFmt (.int i) H Q := .inr ⟨i, rfl, h, q⟩
theorem g_fmtS {z : Str} (q : Q (.str z) H) (h : z.length ≤ sizeLine) : rFmt (.str z) H Q := .inl ⟨z, rfl, h, q⟩
/-! comprehensions, walks -/
theorem g_iList {tl : TE} {R : It → Hp → Prop} (q : tl σ H fun x H1 => ∃ a, x = .ref a ∧ (∃ xs, SqL K H1 a xs) ∧ R (Itl K a) H1) : iList K tl σ H R := q
theorem g_iListE {a : Addr} {xs : List V} {f : Addr → Prop} (q : f a) (h : SqL K H a xs) : ∃ a', V.ref a = .ref a' ∧ (∃ xs, SqL K H a' xs) ∧ f a' := ⟨a, rfl, ⟨xs, h⟩, q⟩
theorem g_iTup {tl : TE} {R : It → Hp → Prop} (q : tl σ H fun x H1 => ∃ a, x = .ref a ∧ (∃ xs, SqT K H1 a xs) ∧ R (Itt K a) H1) : iTup K tl σ H R := q
theorem g_iTupE {a : Addr} {xs : List V} {f : Addr → Prop} (q : f a) (h : SqT K H a xs) : ∃ a', V.ref a = .ref a' ∧ (∃ xs, SqT K H a' xs) ∧ f a' := ⟨a, rfl, ⟨xs, h⟩, q⟩
theorem g_iStr {tl : TE} {R : It → Hp → Prop} (q : tl σ H fun v H1 => ∃ x, v = .str x ∧ R (Its x) H1) : iStr tl σ H R := q
theorem g_iStrE {z : Str} {f : Str → Prop} (q : f z) : ∃ x, V.str z = .str x ∧ f x := ⟨z, rfl, q⟩
theorem g_iRng1 {t : TA} {R : It → Hp → Prop} (q : t σ H fun vs H1 => ∃ j : Int, vs = [.int j] ∧ -(2 ^ 62) ≤ j ∧ j < 2 ^ 62 ∧ R (Itr 0 j.toNat) H1) : iRng1 t σ H R := q
theorem g_iRng1E {j : Int} {f : Int → Prop} (q : f j) (h1 : -(2 ^ 62) ≤ j) (h2 : j < 2 ^ 62) : ∃ i : Int, [V.int j] = [.int i] ∧ -(2 ^ 62) ≤ i ∧ i < 2 ^ 62 ∧ f i := ⟨j, rfl, h1, h2, q⟩
theorem atI_0 {α : Type} {x : α} {l : List α} : atI (x :: l) 0 = some x := by
  unfold atI ixN
  rw [if_pos (by omega), if_pos (by simp only [List.length_cons]; omega)]
  rfl
theorem atI_1 {α : Type} {x y : α} {l : List α} : atI (x :: y :: l) 1 = some y := by
  unfold atI ixN
  rw [if_pos (by omega), if_pos (by simp only [List.length_cons]; omega)]
  rfl
theorem atI_get {α : Type} {l : List α} {i : Nat} {x : α} (h : l[i]? = some x) : atI l (i : Int) = some x := atI_nat h
end
section
variable {X : Cx}
theorem pe_splitN {o e : Expr} {to te : TE} {apos pos : Pos} (ho : PE X o to) (he : PE X e te) (hs : starEach [e] X.env = [(false, eval e X.env)] := by rfl) (hbase : attributeBase o "split" X.env (eval o X.env) = eval o X.env := by rfl) (hline : (apos.endLine == pos.line) = true := by rfl) :
    PE X (.Call (.Attribute o "split" apos) [e] [] pos) (tM1 rgSplit to te) := pe_split ho he hs hbase hline
theorem pe_joinN {o e : Expr} {to te : TE} {apos pos : Pos} (ho : PE X o to) (he : PE X e te) (hs : starEach [e] X.env = [(false, eval e X.env)] := by rfl) (hbase : attributeBase o "join" X.env (eval o X.env) = eval o X.env := by rfl) (hline : (apos.endLine == pos.line) = true := by rfl) :
    PE X (.Call (.Attribute o "join" apos) [e] [] pos) (tM1 (rgJoin X.K) to te) := pe_join ho he hs hbase hline
theorem pe_startsN {o e : Expr} {to te : TE} {apos pos : Pos} (ho : PE X o to) (he : PE X e te) (hs : starEach [e] X.env = [(false, eval e X.env)] := by rfl) (hbase : attributeBase o "startswith" X.env (eval o X.env) = eval o X.env := by rfl) (hline : (apos.endLine == pos.line) = true := by rfl) :
    PE X (.Call (.Attribute o "startswith" apos) [e] [] pos) (tM1 rgStarts to te) := pe_m1 PySem.F.slot_str_startswith PySem.F.type_str_startswith mt_startswith ho he hs hbase hline
theorem pe_joinedN {v1 v2 : Expr} {rest : List Expr} {ts : List TE} {pos : Pos} (h : PJ X (v1 :: v2 :: rest) ts) : PE X (.JoinedStr (v1 :: v2 :: rest) pos) (tFs ts) := pe_joined h
theorem mg_insert : MtR X "list.insert" rgInsert := mt_insert
theorem mg_zfill : MtR X "str.zfill" rgZfill := mt_zfill
end
end Ko

/-! The text of a number: mathematics -/
namespace Xm
open PySem TL
def dig (c : Nat) : Bool := decide (48 ≤ c) && decide (c ≤ 57)
def hasDig (l : List Nat) : Bool := decide (1 ≤ l.length) && (decide (l.length ≤ 60) && (!(l.head? == some 48 && decide (1 < l.length)) && l.all dig))
abbrev val (l : List Nat) : Nat := NumText.digitsVal l
def sgn (neg : Bool) (n : Nat) : Int := if neg then -(n : Int) else n
def readW (neg : Bool) : List (List Nat) → Option Pq
  | [w] => if hasDig w then (if neg && decide (val w = 0) then none else some (sgn neg (val w), 1)) else none
  | [w, z] => if hasDig w && hasDig z then (if neg && decide (val w = 0) then none else if decide (val z < 2) || decide (1 < Nat.gcd (val w) (val z)) then none else some (sgn neg (val w), val z)) else none
  | _ => none
def readL (l : List Nat) : Option Pq := if l.head? = some 45 then readW true (spl [47] 0 [] (l.drop 1)) else readW false (spl [47] 0 [] l)
theorem tl_dash : tl ("-" : Str) = [45] := by decide +kernel
theorem tl_slash : tl ("/" : Str) = [47] := by decide +kernel
theorem tl_zero : tl ("0" : Str) = [48] := by decide +kernel
theorem starts_dash (x : Str) : Txt.startswith x "-" = decide ((tl x).head? = some 45) := by
  have h := at_iff (x := x) (y := "-") (by rw [tl_dash]; simp) 0
  rw [List.drop_zero, tl_dash] at h
  have e : Txt.startswith x "-" = true ↔ pre [45] (tl x) = true := by
    rw [← h]
    unfold Txt.startswith
    rw [Bool.and_eq_true, decide_eq_true_eq]
    exact Iff.rfl
  have e2 : pre [45] (tl x) = true ↔ (tl x).head? = some 45 := by
    unfold pre
    cases tl x with
    | nil => simp
    | cons c r => simp
  cases c : Txt.startswith x "-" with
  | true => exact (decide_eq_true (e2.mp (e.mp c))).symm
  | false =>
    refine (decide_eq_false fun z => ?_).symm
    rw [e.mpr (e2.mpr z)] at c
    cases c
theorem cut_one (x : Str) : tl (L2.cutS x (some 1) none) = (tl x).drop 1 := by
  unfold L2.cutS
  rw [tl_mk]
  have hl := len_tl x
  have e1 : HT.sIx x.length 0 (some 1) = min 1 x.length := by
    unfold HT.sIx
    simp
    try omega
  have e2 : HT.sIx x.length x.length none = x.length := rfl
  rw [e1, e2]
  show ((tl x).drop (min 1 x.length)).take (x.length - min 1 x.length) = _
  cases h : tl x with
  | nil => simp
  | cons c r =>
    rw [h] at hl
    simp only [List.length_cons] at hl
    have e3 : min 1 x.length = 1 := by omega
    rw [e3, hl]
    simp
theorem split_ws (x : Str) : (Txt.split x "/").map tl = spl [47] 0 [] (tl x) := by
  have h := split_spl x "/" (by rw [tl_slash]; simp) (kind_ok (by decide +kernel))
  rw [tl_slash] at h
  exact h
theorem in_digits (c : Nat) : decide (c ∈ ("0123456789" : Str).cps.toList) = dig c := by
  have e : ("0123456789" : Str).cps.toList = [48, 49, 50, 51, 52, 53, 54, 55, 56, 57] := by decide +kernel
  rw [e]
  unfold dig
  by_cases h : 48 ≤ c ∧ c ≤ 57
  · have : c = 48 ∨ c = 49 ∨ c = 50 ∨ c = 51 ∨ c = 52 ∨ c = 53 ∨ c = 54 ∨ c = 55 ∨ c = 56 ∨ c = 57 := by omega
    rcases this with rfl | rfl | rfl | rfl | rfl | rfl | rfl | rfl | rfl | rfl <;> rfl
  · rw [decide_eq_false (show ¬ c ∈ [48, 49, 50, 51, 52, 53, 54, 55, 56, 57] by simp; omega)]
    symm
    rw [Bool.and_eq_false_iff, decide_eq_false_iff_not, decide_eq_false_iff_not]
    omega
theorem hasDig_int {x : Str} (h : hasDig (tl x) = true) : intText? x = some ((val (tl x) : Nat) : Int) := by
  unfold hasDig at h
  simp only [Bool.and_eq_true, decide_eq_true_eq] at h
  obtain ⟨h1, h2, _, h4⟩ := h
  refine PySem.intText_digits (fun c hc => ?_) (fun e => ?_) (by rw [len_tl]; omega)
  · have := List.all_eq_true.mp h4 c hc
    unfold dig at this
    simp only [Bool.and_eq_true, decide_eq_true_eq] at this
    exact this
  · rw [show tl x = [] from e] at h1
    simp at h1
theorem spl_ne (S : List Nat) : ∀ (l : List Nat) (k : Nat) (acc : List Nat), spl S k acc l ≠ []
  | [], _, acc => by unfold spl; simp
  | c :: r, 0, acc => by
    unfold spl
    split
    · simp
    · exact spl_ne S r 0 _
  | c :: r, k + 1, acc => by
    unfold spl
    exact spl_ne S r k acc
theorem spl_len (S : List Nat) : ∀ (l : List Nat) (k : Nat) (acc : List Nat), ∀ w ∈ spl S k acc l, w.length ≤ acc.length + l.length
  | [], _, acc, w, h => by
    unfold spl at h
    rw [List.mem_singleton.mp h]
    simp
  | c :: r, 0, acc, w, h => by
    unfold spl at h
    split at h
    · rcases List.mem_cons.mp h with e | e
      · rw [e]
        simp
      · have := spl_len S r _ [] w e
        simp only [List.length_nil, List.length_cons] at *
        omega
    · have := spl_len S r 0 _ w h
      simp only [List.length_append, List.length_cons, List.length_nil] at *
      omega
  | c :: r, k + 1, acc, w, h => by
    unfold spl at h
    have := spl_len S r k acc w h
    simp only [List.length_cons] at *
    omega
theorem split_ne (x : Str) : Txt.split x "/" ≠ [] := fun e => by
  have h := split_ws x
  rw [e] at h
  exact spl_ne _ _ _ _ h.symm
theorem split_len {x w : Str} (h : w ∈ Txt.split x "/") : w.length ≤ x.length := by
  have h2 : tl w ∈ spl [47] 0 [] (tl x) := by
    rw [← split_ws x]
    exact List.mem_map_of_mem h
  have := spl_len _ _ _ _ _ h2
  rw [len_tl, len_tl]
  simpa using this
theorem hasDig_len {x : Str} (h : hasDig (tl x) = true) : x.length ≤ 60 := by
  unfold hasDig at h
  simp only [Bool.and_eq_true, decide_eq_true_eq] at h
  rw [len_tl]
  exact h.2.1
end Xm

/-! max(list of ints, default=d) -/
namespace PySem
namespace KoM
open Sem (wp)
section
variable {pg : Program} {wd : World} {B : Around} {Rz : Result → Shared → Prop} {it : Addr} {ft mt : List Addr} {m : Nat} {Pz : Nat → Value → Prop} {Sz : Nat → Heap → Prop} {d : Value}
abbrev keep2 (mt : List Addr) (L : Addr) (s : Shared) (h2 : Heap) : Prop := ∀ b o, b ∉ mt → b ≠ L → s.heap.get? b = some o → h2.get? b = some o
abbrev cellL (L : Addr) (x : Array Value) (c : Nat) (h : Heap) : Prop := h.get? L = some { cls := .type "list", dict := none, data := .seq x c, slots := #[] }
theorem nm : (toString "max" ++ toString ".loop" : String) = "max.loop" := by decide
theorem turns (W : Walks pg wd B.in1 it ft mt m Pz Sz) (gt : Nat → Nat → Bool) (hc : CmpOf pg wd B.in1 .Gt Pz gt) (L : Addr) (nL : L ∉ ft) :
    ∀ (k j : Nat) (s : Shared) (best : Value) (c : Nat), m - (j + 1) = k → j + 1 ≤ m → Sz (j + 1) s.heap → Pz (argBest gt j) best → cellL L #[best, best] c s.heap →
    (∀ v h2 tk, Pz (argBest gt (m - 1)) v → keep2 mt L s h2 → Rz (.ok (.ret v)) { s with heap := h2, toks := tk }) →
    codeAny (model pg wd) B (.builtin "max.loop" ⟨[.ref it, .none, .ref L], [("default", d)]⟩) Rz s := by
  have nW : L ∉ mt := fun z => nL (W.sub _ z)
  intro k
  induction k with
  | zero =>
    intro j s best c e1 e2 st hb hL fin
    have last : j + 1 = m := by omega
    refine codeAny_builtin F.entry_max_loop ?_
    rw [Around.under_plainId F.plain_max_loop _]
    show wpAny _ B.in1 (seqItems? (.ref L) >>= _) _ _ s
    refine wpAny_bind (wpAny_seqItems hL rfl ?_)
    show wpAny _ B.in1 (tryCatch (pyNext (.ref it)) _ >>= _) _ _ s
    refine wpAny_bind (wpAny_tryCatch (W.done s _ _ (last ▸ st) fun h1 tk k1 => ?_))
    have hL1 := k1 L _ nW hL
    show wpAny _ B.in1 (updateSeq L (fun _ => #[]) >>= _) _ _ _
    refine wpAny_bind ?_
    refine wpAny_updateSeq hL1 rfl (wpAny_bind (wpAny_letGo (wpAny_pure ?_)))
    exact fin best _ tk (by rw [← last]; exact hb) fun b o n1 n2 e => (Heap.get?_update_other _ _ (Ne.symm n2)).trans (k1 b o n1 e)
  | succ k ih =>
    intro j s best c e1 e2 st hb hL fin
    have lt : j + 1 < m := by omega
    refine codeAny_builtin F.entry_max_loop ?_
    rw [Around.under_plainId F.plain_max_loop _]
    show wpAny _ B.in1 (seqItems? (.ref L) >>= _) _ _ s
    refine wpAny_bind (wpAny_seqItems hL rfl ?_)
    show wpAny _ B.in1 (tryCatch (pyNext (.ref it)) _ >>= _) _ _ s
    refine wpAny_bind (wpAny_tryCatch (W.item (j + 1) s _ _ lt st fun v h1 tk hv st1 k1 => ?_))
    have hL1 := k1 L _ nW hL
    show wpAny _ B.in1 (tryCatch (holding [v, v] (richCompare .Gt v best >>= _)) _ >>= _) _ _ _
    refine wpAny_bind (wpAny_tryCatch (wpAny_holding (wpAny_bind (hc (j + 1) (argBest gt j) v best _ _ _ hv hb ?_))))
    refine wpAny_bind (wpAny_holding (wpAny_truthy_bool ?_))
    refine wpAny_bind (wpAny_letGo (wpAny_pure ?_))
    cases g : gt (j + 1) (argBest gt j) with
    | true =>
      have ab : argBest gt (j + 1) = j + 1 := by
        simp only [argBest, g, if_true]
      simp only [if_true]
      refine wpAny_bind ?_
      refine wpAny_updateSeq hL1 rfl (wpAny_bind (wpAny_letGo ?_))
      rw [nm]
      refine wpAny_pure ⟨plainId_quiet F.plain_max_loop _, ?_⟩
      refine ih (j + 1) _ v _ (by omega) lt (W.frame _ _ _ st1 fun b hbf o e => ?_) (by rw [ab]; exact hv) (Heap.get?_update_self _ hL1 rfl) fun v2 h3 tk3 hp k3 => ?_
      · exact (Heap.get?_update_other _ _ (fun z : L = b => nL (by rw [z]; exact hbf))).trans e
      · exact fin v2 h3 tk3 hp fun b o n1 n2 e => k3 b o n1 n2 ((Heap.get?_update_other _ _ (Ne.symm n2)).trans (k1 b o n1 e))
    | false =>
      have ab : argBest gt (j + 1) = argBest gt j := by
        simp only [argBest, g, Bool.false_eq_true, if_false]
      simp only [Bool.false_eq_true, if_false]
      refine wpAny_bind (wpAny_letGo ?_)
      rw [nm]
      refine wpAny_pure ⟨plainId_quiet F.plain_max_loop _, ?_⟩
      refine ih (j + 1) _ best c (by omega) lt st1 (by rw [ab]; exact hb) hL1 fun v2 h3 tk3 hp k3 => ?_
      exact fin v2 h3 tk3 hp fun b o n1 n2 e => k3 b o n1 n2 (k1 b o n1 e)
theorem turn0 (W : Walks pg wd B.in1 it ft mt m Pz Sz) (gt : Nat → Nat → Bool) (hc : CmpOf pg wd B.in1 .Gt Pz gt) (L : Addr) (nL : L ∉ ft) (pos : 0 < m) {s : Shared} {c : Nat} (st : Sz 0 s.heap) (hL : cellL L #[] c s.heap)
    (fin : ∀ v h2 tk, Pz (argBest gt (m - 1)) v → keep2 mt L s h2 → Rz (.ok (.ret v)) { s with heap := h2, toks := tk }) :
    codeAny (model pg wd) B (.builtin "max.loop" ⟨[.ref it, .none, .ref L], [("default", d)]⟩) Rz s := by
  have nW : L ∉ mt := fun z => nL (W.sub _ z)
  refine codeAny_builtin F.entry_max_loop ?_
  rw [Around.under_plainId F.plain_max_loop _]
  show wpAny _ B.in1 (seqItems? (.ref L) >>= _) _ _ s
  refine wpAny_bind (wpAny_seqItems hL rfl ?_)
  show wpAny _ B.in1 (tryCatch (pyNext (.ref it)) _ >>= _) _ _ s
  refine wpAny_bind (wpAny_tryCatch (W.item 0 s _ _ pos st fun v h1 tk hv st1 k1 => ?_))
  have hL1 := k1 L _ nW hL
  show wpAny _ B.in1 (updateSeq L (fun _ => #[v, v]) >>= _) _ _ _
  refine wpAny_bind ?_
  refine wpAny_updateSeq hL1 rfl ?_
  rw [nm]
  refine wpAny_pure ⟨plainId_quiet F.plain_max_loop _, ?_⟩
  refine turns W gt hc L nL _ 0 _ v _ rfl pos (W.frame _ _ _ st1 fun b hbf o e => ?_) hv (Heap.get?_update_self _ hL1 rfl) fun v2 h3 tk3 hp k3 => ?_
  · exact (Heap.get?_update_other _ _ (fun z : L = b => nL (by rw [z]; exact hbf))).trans e
  · exact fin v2 h3 tk3 hp fun b o n1 n2 e => k3 b o n1 n2 ((Heap.get?_update_other _ _ (Ne.symm n2)).trans (k1 b o n1 e))
/-- nothing in the list: the default -/
theorem none0 (W : Walks pg wd B.in1 it ft mt 0 Pz Sz) (L : Addr) {s : Shared} {c : Nat} (st : Sz 0 s.heap) (hL : cellL L #[] c s.heap)
    (fin : ∀ h2 tk, (∀ b o, b ∉ mt → s.heap.get? b = some o → h2.get? b = some o) → Rz (.ok (.ret d)) { s with heap := h2, toks := tk }) :
    codeAny (model pg wd) B (.builtin "max.loop" ⟨[.ref it, .none, .ref L], [("default", d)]⟩) Rz s := by
  refine codeAny_builtin F.entry_max_loop ?_
  rw [Around.under_plainId F.plain_max_loop _]
  show wpAny _ B.in1 (seqItems? (.ref L) >>= _) _ _ s
  refine wpAny_bind (wpAny_seqItems hL rfl ?_)
  show wpAny _ B.in1 (tryCatch (pyNext (.ref it)) _ >>= _) _ _ s
  refine wpAny_bind (wpAny_tryCatch (W.done s _ _ st fun h1 tk k1 => ?_))
  have z := fin h1 tk k1
  wp_walk
  exact z
end
theorem argsD (a v : Value) : argsOk "max" ⟨[a], [("default", v)]⟩ := by
  unfold argsOk
  kernel_rfl
section
variable {pg : Program} {wd : World} {B : Around} {E : Value → Shared → Prop} {s : Shared} {l : Addr} {xs : Array (Int × Tok)} {d : Value} {Q : Value → Shared → Prop}
theorem max_default (hh : B.handled = none) (hl : s.heap.IsList l (intItems xs))
    (h0 : xs.size = 0 → ∀ h2 tk, (∀ b o, s.heap.get? b = some o → h2.get? b = some o) → Q d { s with heap := h2, toks := tk })
    (h1 : 0 < xs.size → ∀ v h2 tk, (intItems xs)[argBest (fun i j => decide (numAt xs i > numAt xs j)) (xs.size - 1)]? = some v → (∀ b o, s.heap.get? b = some o → h2.get? b = some o) → Q v { s with heap := h2, toks := tk }) :
    wpAny (model pg wd) B (call (.builtin "max") [.ref l] [("default", d)]) Q E s := by
  refine PyProof.Rows.kmk_tree F.kind_max F.plain_max F.entry_max (argsD _ _) ?_
  show wpAny _ B.in1 (Builtin.Builtins.bindParams "max" ["key", "default"] 0 ⟨[], [("default", d)]⟩ >>= _) _ _ s
  refine wpAny_bind (wpAny_of_eq (show Builtin.Builtins.bindParams "max" ["key", "default"] 0 ⟨[], [("default", d)]⟩ = pure [none, some d] from rfl) ?_)
  refine wpAny_bind (wpAny_pure ?_)
  refine wpAny_bind (iter_intList hl fun s2 e st hfp hlI => ?_)
  refine wpAny_bind (wpAny_newObj_type ?_)
  have nL : s2.heap.objs.size ∉ [s.heap.objs.size, l] := fun hm => Nat.lt_irrefl _ (hfp _ hm)
  rw [nm]
  have W := Walks.list (prog := pg) (w := wd) (A := B.in1) hh s.heap.objs.size l hlI (intItems xs)
  have hn : (intItems xs).size = xs.size := by simp [intItems]
  have push : ∀ b o, s2.heap.get? b = some o → (s2.heap.push { cls := .type "list", data := .seq #[] }).get? b = some o := fun b o e => Heap.get?_push_of_some _ e
  refine wpAny_pure ⟨plainId_quiet F.plain_max_loop _, ?_⟩
  rcases Nat.eq_zero_or_pos xs.size with z | z
  · have W0 : Walks pg wd B.in1 s.heap.objs.size [s.heap.objs.size, l] [s.heap.objs.size] 0 _ _ := (hn.trans z) ▸ W
    refine none0 W0 s2.heap.objs.size (W0.frame _ _ _ st fun b _ o e => push b o e) (Heap.get?_push_size _ rfl) fun h2 tk k => ?_
    subst e
    exact h0 z h2 tk (old_kept fun b o n e => k b o n (push b o e))
  · refine turn0 W (fun i j => decide (numAt xs i > numAt xs j)) (CmpOf.ints_gt (numAt xs) fun _ _ => intItems_at) s2.heap.objs.size nL (by rw [hn]; exact z) (W.frame _ _ _ st fun b _ o e => push b o e) (Heap.get?_push_size _ rfl) fun v h2 tk hv k => ?_
    subst e
    rw [hn] at hv
    refine h1 z v h2 tk hv (old_kept fun b o n e => k b o n (Nat.ne_of_lt (Heap.lt_size e)) (push b o e))
end
end KoM
end PySem

namespace Ko
open PySem L2 PySem.Spec PyProof.Rows Xm
def rMaxD (K : Fg) : List V → List V → Hp → VK → Prop := fun vs zs H Q => ∃ (a : Addr) (ns : List Int) (d : V), vs = [.ref a] ∧ zs = [d] ∧ SqL K H a (ns.map V.int) ∧ (ns = [] → Q d H) ∧ (ns ≠ [] → ∀ m, m ∈ ns → (∀ y, y ∈ ns → y ≤ m) → Q (.int m) H)
theorem cr_maxD {X : Cx} (hc : X.calm = true) : CallRK X (.builtin "max") ["default"] (rMaxD X.K) := by
  intro pins s σ H vs zs us ws Q I r rz h
  obtain ⟨a, ns, d, rfl, rfl, hs, q0, q1⟩ := h
  obtain ⟨its, rv, hl, _⟩ := I.list hs
  rw [Vals.ref1 r]
  cases rz with
  | @cons _ u _ _ ru rr =>
    cases rr
    have hi := rv.ints
    obtain ⟨xs, e⟩ := hi.allInts.items
    have hn : numsOf (intItems xs).toList = ns := by rw [← e]; exact hi.numsOf
    rw [nums_intItems] at hn
    subst hn
    have hl' := hl.isList
    rw [e] at hl'
    show wpAny _ _ (call (.builtin "max") [.ref a] [("default", u)]) _ _ s
    refine KoM.max_default (I.ok.hd hc) hl' (fun z h2 tk k => ?_) (fun z v h2 tk hv k => ?_)
    · refine ⟨d, H, I.kept k, ru, q0 ?_⟩
      have : xs = #[] := Array.eq_empty_of_size_eq_zero z
      subst this
      rfl
    · obtain ⟨t, rfl⟩ := intItems_at hv
      obtain ⟨g1, g2⟩ := argBest_gt (numAt xs) (xs.size - 1)
      refine ⟨.int _, H, I.kept k, ⟨t, rfl⟩, q1 ?_ _ ?_ fun y hy => ?_⟩
      · intro z2
        have z3 := congrArg List.length z2
        rw [List.length_map, Array.length_toList, List.length_nil] at z3
        omega
      · rw [numAt_eq]
        exact PySem.getD_mem (by rw [List.length_map, Array.length_toList]; omega)
      · obtain ⟨j, hj, rfl⟩ := mem_getD hy
        rw [List.length_map, Array.length_toList] at hj
        rw [← numAt_eq]
        exact g2 j (by omega)
end Ko

/-! dict(zip(xs, ys)): keys that are ints and texts -/
namespace Ko
open PySem L2 PySem.Spec PyProof.Rows Xm
/-- the pairs of two lists -/
def tDictZip (K : Fg) (ta : TA) : TE := fun σ H Q => ta σ H fun vs H1 => ∃ (a b : Addr) (ks : List Key) (ys : List V), vs = [.ref a, .ref b] ∧ SqL K H1 a (ks.map kV) ∧ SqL K H1 b ys ∧ ks.length = ys.length ∧
  ∀ p, H1 p = none → Q (.ref p) (upd H1 p (.dK (mergeK [] (ks.zip ys))))
theorem kv_zip : ∀ {ks : List Key} {ys : List V} {us : List Value}, ks.length = ys.length → Vals ys us → KV (ks.zip ys) (ks.zip us)
  | [], [], _, _, .nil => .nil
  | _ :: _, _ :: _, _, h, .cons r t => .cons ⟨rfl, r⟩ (kv_zip (by simpa using h) t)
theorem keys_is (P : Program) (w : World) {ks : List Key} {us : List Value} (r : Vals (ks.map kV) us) : ∀ (i : Nat) (u : Value), us[i]? = some u → ∃ k, ks[i]? = some k ∧ keyIs k u = true := by
  induction ks generalizing us with
  | nil =>
    cases r
    intro i u h
    simp at h
  | cons k ks ih =>
    cases r with
    | cons r t =>
      intro i u h
      cases i with
      | zero =>
        simp at h
        subst h
        exact ⟨k, rfl, kV_is (P := P) (w := w) r⟩
      | succ i => exact ih t i u (by simpa using h)
theorem pe_dictZip {X : Cx} {e1 e2 : Expr} {ta : TA} {p1 p2 pos pos2 : Pos} (hc : X.calm = true) (g1 : Gl X "dict") (m1 : X.mg "dict" = none) (g2 : Gl X "zip") (m2 : X.mg "zip" = none) (ha : PA X [e1, e2] ta)
    (ns : starEach [.Call (.Name "zip" p2) [e1, e2] [] pos2] X.env = (false, eval (.Call (.Name "zip" p2) [e1, e2] [] pos2) X.env) :: starEach [] X.env := by rfl)
    (hs : starEach [e1, e2] X.env = (false, eval e1 X.env) :: starEach [e2] X.env := by rfl) (hpl : (backTo pos2 (starEach [e2] X.env)).any (·.1) = false := by rfl) :
    PE X (.Call (.Name "dict" p1) [.Call (.Name "zip" p2) [e1, e2] [] pos2] [] pos) (tDictZip X.K ta) := by
  refine ⟨fun pins s σ H Q I h => ?_⟩
  refine Call_ (ld_blt I g1 m1 PyProof.Rows.boot_dict (PyProof.Rows.callWith_type1 (args_cons ?_ ns) ns))
  refine Call_ (ld_blt I g2 m2 PyProof.Rows.boot_zip (PyProof.Rows.callWith_type1 (thn (ha.run pos2 pins s σ H _ I h) fun us s1 hq => ?_) hs hpl))
  obtain ⟨vs, H1, I1, r1, a, b, ks, ys, ex, hx, hy, hl, q⟩ := hq
  subst ex
  cases r1 with
  | @cons _ _ _ _ r rr =>
    cases rr with
    | @cons _ _ _ _ r' rr =>
      cases rr
      cases r
      cases r'
      obtain ⟨its, rv, pa, sa⟩ := I1.list hx
      obtain ⟨jts, rw', pb, sb⟩ := I1.list hy
      have la : a < s1.heap.objs.size := pa.lt
      have lb : b < s1.heap.objs.size := pb.lt
      have e1 := rv.length
      have e2 := rw'.length
      rw [List.length_map] at e1 sa
      refine call_zip_2 pa.isList pb.isList fun h2 hz hTI hTO i1 i2 hsz hk => args_nil ?_
      have D := PySem.W.ktu_apart s1.heap.objs.size a b la lb
      have dom : ∀ c o, s1.heap.get? c = some o → c ∉ [s1.heap.objs.size + 4, s1.heap.objs.size + 3, s1.heap.objs.size, s1.heap.objs.size + 1] := fun c o e hm => by
        have lt := Heap.lt_size e
        simp only [List.mem_cons, List.not_mem_nil, or_false] at hm
        rcases hm with rfl | rfl | rfl | rfl
        · exact absurd lt (Nat.not_lt.mpr (Nat.le_add_right _ _))
        · exact absurd lt (Nat.not_lt.mpr (Nat.le_add_right _ _))
        · exact Nat.lt_irrefl _ lt
        · exact absurd lt (Nat.not_lt.mpr (Nat.le_add_right _ _))
      refine PySem.call_dict_pairs (s := { s1 with heap := h2 }) (knd := mixKind X.prog X.w) (kvs := ks.zip jts) (PairArg.zip (prog := X.prog) (w := X.w) _ _ _ _ _ _ _ D its.toArray jts.toArray) (I1.ok.hd hc)
        ⟨hz, hTI, ⟨_, _, hTO⟩, i1, i2, pa.isList.at fun o e => hk _ o e, pb.isList.at fun o e => hk _ o e⟩ ⟨?_, fun i k v hr => ?_⟩ ?_ fun h3 tk hd k3 => ?_
      · rw [List.length_zip, List.size_toArray, List.size_toArray]
        omega
      · obtain ⟨f1, f2⟩ := hr
        obtain ⟨key, f3, f4⟩ := keys_is X.prog X.w rv i k (by simpa using f1)
        refine ⟨key, ?_, f4⟩
        rw [List.getElem?_zip_eq_some]
        exact ⟨f3, by simpa using f2⟩
      · rw [List.size_toArray, List.size_toArray]
        omega
      · have kv := KV.merge (kv_zip (ks := ks) hl rw') (show KV ([] : List (Key × V)) [] from .nil)
        have hlen : (mergeK [] (ks.zip ys)).length ≤ sizeLine := by
          refine Nat.le_trans (length_mergeK _ []) ?_
          rw [List.length_nil, Nat.zero_add, List.length_zip]
          omega
        have big : (h2.objs.size == sysModules) = false := beq_eq_false_iff_ne.mpr fun z => by
          have := I1.big
          rw [hsz] at z
          have z2 : s1.heap.objs.size + 5 = sysModules := z
          exact absurd this (by rw [← z2]; exact Nat.not_lt.mpr (Nat.le_add_right _ _))
        exact ⟨.ref h2.objs.size, upd H1 h2.objs.size (.dK (mergeK [] (ks.zip ys))), I1.laid (t' := tk) (fun c o e => k3 c o (dom c o e) (hk c o e)) (by rw [hsz]; exact Nat.le_add_right _ _)
          (show ObjOk X.prog X.w _ _ _ (.dK (mergeK [] (ks.zip ys))) from ⟨hlen, big, _, kv, hd⟩), rfl, q _ (I1.hok.fresh (by rw [hsz]; exact Nat.le_add_right _ _))⟩
end Ko

/-! What a dict of pairs holds -/
namespace Ko
open PySem L2 PySem.Spec PyProof.Rows Xm
section
variable {κ : Type} [DecidableEq κ]
theorem valV_mem {kvs : List (κ × V)} {k : κ} : (valV kvs k).isSome = true ↔ k ∈ kvs.map (·.1) := by
  unfold valV
  rw [Option.isSome_map, List.find?_isSome]
  constructor
  · rintro ⟨p, hp, e⟩
    exact List.mem_map.mpr ⟨p, hp, of_decide_eq_true e⟩
  · intro h
    obtain ⟨p, hp, e⟩ := List.mem_map.mp h
    exact ⟨p, hp, decide_eq_true e⟩
theorem put_keys {kvs : List (κ × V)} {k : κ} {v : V} : (putK kvs k v).map (·.1) = if k ∈ kvs.map (·.1) then kvs.map (·.1) else kvs.map (·.1) ++ [k] := by
  cases h : valV kvs k with
  | none =>
    have hn : ¬ k ∈ kvs.map (·.1) := fun z => by
      rw [← valV_mem, h] at z
      cases z
    rw [if_neg hn, putK_new v h, List.map_append]
    rfl
  | some y =>
    have hm : k ∈ kvs.map (·.1) := valV_mem.mp (by rw [h]; rfl)
    rw [if_pos hm]
    unfold putK
    split
    · rw [List.map_map]
      refine List.map_congr_left fun p _ => ?_
      show (if p.1 = k then (p.1, v) else p).1 = p.1
      split <;> rfl
    · rename_i hne
      exfalso
      simp only [List.any_eq_true, not_exists, not_and, decide_eq_true_eq] at hne
      obtain ⟨p, hp, e⟩ := List.mem_map.mp hm
      exact hne p hp e
end
theorem merge_nodup : ∀ (more kvs : List (Key × V)), (kvs.map (·.1)).Nodup → ((mergeK kvs more).map (·.1)).Nodup
  | [], _, h => h
  | p :: r, kvs, h => by
    refine merge_nodup r (putK kvs p.1 p.2) ?_
    rw [put_keys]
    split
    · exact h
    · rename_i hn
      exact List.nodup_append.mpr ⟨h, by simp, fun a ha b hb e => hn (by rw [← List.mem_singleton.mp hb, ← e]; exact ha)⟩
theorem merge_val : ∀ (more kvs : List (Key × V)) (k : Key) (v : V), valV (mergeK kvs more) k = some v → (k, v) ∈ more ∨ valV kvs k = some v
  | [], _, _, _, h => .inr h
  | p :: r, kvs, k, v, h => by
    rcases merge_val r (putK kvs p.1 p.2) k v h with e | e
    · exact .inl (.tail _ e)
    · rw [valV_put] at e
      split at e
      · rename_i ek
        cases e
        subst ek
        exact .inl (.head _)
      · exact .inr e
theorem merge_mem : ∀ (more kvs : List (Key × V)) (k : Key), k ∈ (mergeK kvs more).map (·.1) ↔ k ∈ more.map (·.1) ∨ k ∈ kvs.map (·.1)
  | [], kvs, k => by
    show k ∈ kvs.map (·.1) ↔ _
    simp
  | p :: r, kvs, k => by
    show k ∈ (mergeK (putK kvs p.1 p.2) r).map (·.1) ↔ _
    rw [merge_mem r, put_keys, List.map_cons, List.mem_cons]
    split
    · rename_i hm
      constructor
      · rintro (h | h)
        · exact .inl (.inr h)
        · exact .inr h
      · rintro ((h | h) | h)
        · subst h
          exact .inr hm
        · exact .inl h
        · exact .inr h
    · rw [List.mem_append, List.mem_singleton]
      constructor
      · rintro (h | h | h)
        · exact .inl (.inr h)
        · exact .inr h
        · exact .inl (.inl h)
      · rintro ((h | h) | h)
        · exact .inr (.inr h)
        · exact .inl h
        · exact .inr (.inl h)
/-- keys that are ints -/
def intK : Key → Int
  | .inl i => i
  | .inr _ => 0
theorem keys_int {kvs : List (Key × V)} (h : ∀ k ∈ kvs.map (·.1), ∃ i, k = Sum.inl i) : kvs.map (·.1) = (kvs.map fun p => intK p.1).map Sum.inl := by
  rw [List.map_map]
  refine List.map_congr_left fun p hp => ?_
  obtain ⟨i, e⟩ := h p.1 (List.mem_map.mpr ⟨p, hp, rfl⟩)
  show p.1 = Sum.inl (intK p.1)
  rw [e]
  rfl
/-- a dict of keys and values, side by side: what it holds -/
theorem zip_dict {ns : List Int} {ys : List V} (hl : ns.length = ys.length) : let d := mergeK [] ((ns.map Sum.inl : List Key).zip ys)
    ∃ ks : List Int, d.map (·.1) = ks.map Sum.inl ∧ ks.Nodup ∧ (∀ k, k ∈ ks ↔ k ∈ ns) ∧ ks.length ≤ ns.length ∧ ∀ k ∈ ks, ∃ (j : Nat) (v : V), ns[j]? = some k ∧ ys[j]? = some v ∧ valV d (Sum.inl k) = some v := by
  intro d
  have hm : ∀ k, k ∈ d.map (·.1) ↔ k ∈ (ns.map Sum.inl : List Key) := fun k => by
    rw [merge_mem, List.map_fst_zip (by rw [List.length_map]; omega)]
    simp
  have hk := keys_int (kvs := d) fun k h => by
    obtain ⟨i, _, e⟩ := List.mem_map.mp ((hm k).mp h)
    exact ⟨i, e.symm⟩
  have hn := merge_nodup ((ns.map Sum.inl : List Key).zip ys) [] .nil
  refine ⟨d.map fun p => intK p.1, hk, ?_, fun k => ?_, ?_, fun k hk' => ?_⟩
  · have hn2 : (d.map (·.1)).Nodup := hn
    rw [hk] at hn2
    exact (List.pairwise_map.mp hn2).imp fun h e => h (by rw [e])
  · have := hm (Sum.inl k)
    rw [hk] at this
    constructor
    · intro z
      obtain ⟨i, hi, e⟩ := List.mem_map.mp (this.mp (List.mem_map_of_mem z))
      cases e
      exact hi
    · intro z
      obtain ⟨i, hi, e⟩ := List.mem_map.mp (this.mpr (List.mem_map_of_mem z))
      cases e
      exact hi
  · rw [List.length_map]
    refine Nat.le_trans (length_mergeK _ []) ?_
    rw [List.length_nil, List.length_zip, List.length_map]
    omega
  · have h1 : (Sum.inl k : Key) ∈ d.map (·.1) := by
      rw [hk]
      exact List.mem_map_of_mem hk'
    obtain ⟨v, hv⟩ := Option.isSome_iff_exists.mp (valV_mem.mpr h1)
    rcases merge_val _ _ _ _ hv with e | e
    · obtain ⟨j, hj⟩ := List.mem_iff_getElem?.mp e
      rw [List.getElem?_zip_eq_some] at hj
      obtain ⟨j1, j2⟩ := hj
      rw [List.getElem?_map] at j1
      cases hx : ns[j]? with
      | none => rw [hx] at j1; cases j1
      | some n =>
        rw [hx] at j1
        cases j1
        exact ⟨j, v, hx, j2, hv⟩
    · cases e
end Ko

/-! more readings taken apart: keywords, dicts, unpacking, whiles -/
namespace Ko
open PySem L2 PySem.Spec PyProof.Rows Xm
section
variable {σ : Sg} {H : Hp} {Q : VK} {v x y : V} {i : Nat} {ta tb tc te to : TE} {K : Fg}
theorem g_ckw {r : List V → List V → Hp → VK → Prop} {t tk : TA} (q : t σ H fun vs H1 => tk σ H1 fun zs H2 => r vs zs H2 Q) : tCKw r t tk σ H Q := q
theorem g_callK {sp : Sp} {gV : List V → List V → List V} {E : XK} {t tk : TA} (q : t σ H fun vs H1 => tk σ H1 fun zs H2 => sp (gV vs zs) H2 Q E) : tCallK sp gV E t tk σ H Q := q
theorem g_dget (q : ta σ H fun x H1 => tb σ H1 fun y H2 => ∃ a v, x = .ref a ∧ DGet H2 a y (some v) ∧ Q v H2) : tDGet ta tb σ H Q := q
theorem g_dgetI {a : Addr} {kvs : List (Key × V)} {k : Int} (h : H a = some (.dK kvs)) (e : valV kvs (Sum.inl k) = some v) (q : Q v H) : ∃ a' v', V.ref a = .ref a' ∧ DGet H a' (.int k) (some v') ∧ Q v' H := ⟨a, v, rfl, e ▸ DGet.k (k := Sum.inl k) h, q⟩
def rgSortD : List V → Hp → VK → Prop := fun xs H Q => ∃ (a : Addr) (kvs : List (Key × V)) (ks : List Int), xs = [.ref a] ∧ Rd H a (.dK kvs) ∧ kvs.map (·.1) = ks.map Sum.inl ∧ ks.length < 64 ∧
    ∀ (ys : List Int) (p : Addr), ys.Perm ks → ys.Pairwise (· ≤ ·) → H p = none → Q (.ref p) (upd H p (.lst (ys.map V.int)))
theorem cg_sortedD {X : Cx} (hcalm : X.calm = true) : CallR X (.builtin "sorted") rgSortD := call_sortedDI hcalm
theorem g_sortD {a : Addr} {kvs : List (Key × V)} {ks : List Int} (h : H a = some (.dK kvs)) (hk : kvs.map (·.1) = ks.map Sum.inl) (hl : ks.length < 64) (hn : ks.Nodup)
    (q : ∀ (ys : List Int) (p : Addr), (∀ k, k ∈ ys ↔ k ∈ ks) → ys.length = ks.length → ys.Pairwise (· < ·) → H p = none → Q (.ref p) (upd H p (.lst (ys.map V.int)))) : rgSortD [.ref a] H Q :=
  ⟨a, kvs, ks, rfl, .inl h, hk, hl, fun ys p hp hs np => q ys p (fun k => hp.mem_iff) hp.length_eq (List.Pairwise.imp₂ (fun a b h1 h2 => by
    have h1' : a ≠ b := h1
    have h2' : a ≤ b := h2
    omega) ((hp.nodup_iff).mpr hn) hs) np⟩
theorem g_dictZip {t : TA} (q : t σ H fun vs H1 => ∃ (a b : Addr) (ks : List Key) (ys : List V), vs = [.ref a, .ref b] ∧ SqL K H1 a (ks.map kV) ∧ SqL K H1 b ys ∧ ks.length = ys.length ∧ ∀ p, H1 p = none → Q (.ref p) (upd H1 p (.dK (mergeK [] (ks.zip ys))))) : tDictZip K t σ H Q := q
theorem g_dictZipE {a b : Addr} {ns : List Int} {ys : List V} {f : Addr → List Key → List V → Prop} (hx : SqL K H a (ns.map V.int)) (hy : SqL K H b ys) (hl : ns.length = ys.length)
    (q : ∀ p, H p = none → f p (ns.map Sum.inl) ys) : ∃ (a' b' : Addr) (ks : List Key) (ys : List V), [V.ref a, V.ref b] = [.ref a', .ref b'] ∧ SqL K H a' (ks.map kV) ∧ SqL K H b' ys ∧ ks.length = ys.length ∧ ∀ p, H p = none → f p ks ys :=
  ⟨a, b, ns.map Sum.inl, ys, rfl, by rw [List.map_map]; exact hx, hy, by rw [List.length_map]; exact hl, q⟩
/-! unpacking -/
theorem g_gTup {n : Nat} {t : TGs} {a : Addr} {xs : List V} {N : Sg → Hp → Prop} (q : t xs σ H N) (h : SqT K H a xs) (hn : xs.length = n) : gTup K n t (.ref a) σ H N := ⟨a, xs, rfl, h, hn, q⟩
theorem g_gCons {t : TG} {u : TGs} {v : V} {r : List V} {N : Sg → Hp → Prop} (q : t v σ H fun σ' H' => u r σ' H' N) : gCons t u (v :: r) σ H N := ⟨v, r, rfl, q⟩
theorem g_gNil {N : Sg → Hp → Prop} (q : N σ H) : gNil [] σ H N := ⟨rfl, q⟩
theorem g_revL (q : te σ H fun x H1 => ∃ a xs, x = .ref a ∧ SqL K H1 a xs ∧ ∀ p, H1 p = none → Q (.ref p) (upd H1 p (.lst xs.reverse))) : tRevL K te σ H Q := q
theorem g_revLE {a : Addr} {xs : List V} {f : Addr → List V → Prop} (h : SqL K H a xs) (q : ∀ p, H p = none → f p xs) : ∃ a' xs, V.ref a = .ref a' ∧ SqL K H a' xs ∧ ∀ p, H p = none → f p xs := ⟨a, xs, rfl, h, q⟩
end
theorem g_for {wi : TI} {g : TG} {tb : TS} {D : Ends} {σ : Sg} {H : Hp} (q : wi σ H fun J H1 => ∃ W : Nat → Nat → Sg → Hp → Prop, (∃ m, W 0 m σ H1) ∧ ∀ i m σ H, W i m σ H →
    (J.stop i H ∧ D.nx σ H) ∨ (J.go i H ∧ ∃ N : Sg → Hp → Prop, (∀ σ' H', N σ' H' → ∃ m', m' < m ∧ W (i + 1) m' σ' H') ∧ ∀ x H', J.yld i H x H' → g x σ H' fun σ2 H2 => tb { D with nx := N, ct := N, bk := D.nx } σ2 H2)) : tFor wi g tb D σ H := q
theorem same_at {H H' : Hp} {a : Addr} {o : HO} (s : Same H H') (h : H a = some o) : H' a = some o := s _ _ h
section
variable {X : Cx}
theorem ix_seqK (K : Fg) (h : X.K = K := by rfl) : IxR X (rIx K) := h ▸ ix_seq
theorem cg_lenK (K : Fg) (h : X.K = K := by rfl) : CallR X (.builtin "len") (rgLen K) := h ▸ cg_len
theorem cg_isiK (K : Fg) (h : X.K = K := by rfl) : CallR X (.builtin "isinstance") (rgIsi K) := h ▸ cg_isi
theorem cg_isiTK (K : Fg) (h : X.K = K := by rfl) : CallR X (.builtin "isinstance") (rgIsiT K) := h ▸ cg_isiT
theorem cr_allK (K : Fg) (hc : X.calm = true) (h : X.K = K := by rfl) : CallR X (.builtin "all") (rAll K) := h ▸ cr_all hc
end
/-- a while that is never entered -/
theorem g_while0 {c : TT} {tb : TS} {D : Ends} {σ : Sg} {H : Hp} (hc : ∀ R : Bool → Hp → Prop, R false H → c σ H R) (q : D.nx σ H) : tWhile c tb D σ H :=
  ⟨fun m σ' H' => σ' = σ ∧ H' = H, ⟨0, rfl, rfl⟩, fun m σ' H' h => by
    obtain ⟨rfl, rfl⟩ := h
    exact hc _ q⟩
end Ko

/-! Texts of ints -/
namespace Xm
open PySem TL
def tlI (n : Int) : List Nat := if n < 0 then 45 :: numL n.natAbs else numL n.natAbs
theorem tl_int (n : Int) : tl (Str.ofString (toString n)) = tlI n := by
  unfold tlI
  cases n with
  | ofNat m =>
    rw [if_neg (by simp)]
    exact tl_num m
  | negSucc m =>
    rw [if_pos (by exact Int.negSucc_lt_zero m)]
    have e : toString (Int.negSucc m) = "-" ++ toString ((m + 1 : Nat) : Int) := rfl
    rw [e, tl_ofString, String.toList_append, List.map_append, ← tl_ofString, ← tl_ofString, tl_num]
    rfl
theorem tlI_nat (n : Nat) : tlI (n : Int) = numL n := by
  unfold tlI
  rw [if_neg (by omega), Int.natAbs_natCast]
theorem numL_le {n k : Nat} (hk : 0 < k) (h : n < 10 ^ k) : (numL n).length ≤ k := numL_len hk h
theorem len_int {i : Int} {k : Nat} (hk : 0 < k) (h : i.natAbs < 10 ^ k) : (Str.ofString (toString i)).length ≤ k + 1 := by
  rw [len_tl, tl_int]
  have := numL_le hk h
  unfold tlI
  split
  · rw [List.length_cons]
    omega
  · omega
theorem log_of {i : Int} (h : i.natAbs < 10 ^ 64) : i.natAbs.log2 < 1920 := by
  by_cases z : i.natAbs = 0
  · rw [z]
    decide
  · refine (Nat.log2_lt z).mpr (Nat.lt_of_lt_of_le h ?_)
    exact Nat.le_trans (show 10 ^ 64 ≤ 2 ^ 213 by decide) (Nat.pow_le_pow_right (by decide) (by decide))
/-- a sign ahead of the digits -/
theorem sign_top (n : Int) : Str.empty ++ (if n < 0 then ("-" : Str) else ("" : Str)) ++ Str.ofString (toString (if n < 0 then -n else n)) = Str.ofString (toString n) := by
  refine ext_tl ?_
  rw [tl_append, tl_append, tl_int, tl_int]
  unfold tlI
  by_cases c : n < 0
  · rw [if_pos c, if_pos c, if_pos c, if_neg (by omega), tl_dash, Int.natAbs_neg]
    rfl
  · rw [if_neg c, if_neg c, if_neg c]
    rfl
end Xm

/-! The heap without the bag -/
namespace Ko
open PySem L2 PySem.Spec PyProof.Rows Xm
section
variable {H H' : Hp} {b c p a : Addr} {o : HO}
theorem mk_same : Same (delH H b) H := fun a o e => by
  by_cases h : a = b
  · rw [h, delH_same] at e
    cases e
  · rw [delH_ne h] at e
    exact e
theorem mk_mono (s : Same H H') : Same (delH H b) (delH H' b) := fun a o e => by
  by_cases h : a = b
  · rw [h, delH_same] at e
    cases e
  · rw [delH_ne h] at e ⊢
    exact s _ _ e
theorem mk_kp (k : Kp b c H H') : Same (delH H b) (delH H' b) := fun a o e => by
  by_cases h : a = b
  · rw [h, delH_same] at e
    cases e
  · rw [delH_ne h] at e ⊢
    exact k.1 a o h e
theorem mk_at (e : H a = some o) (h : a ≠ b) : delH H b a = some o := by
  rw [delH_ne h]
  exact e
theorem mk_ne (e : delH H b a = some o) : a ≠ b := fun h => by
  rw [h, delH_same] at e
  cases e
theorem mk_new (n : H p = none) (B : Bag H b c) : delH (upd H p o) b p = some o := mk_at upd_same (B.free n).1
theorem mk_upd (n : H p = none) : Same (delH H b) (delH (upd H p o) b) := mk_mono (same_new n)
theorem mk_none (n : H p = none) : delH H b p = none := by
  by_cases h : p = b
  · rw [h, delH_same]
  · rw [delH_ne h]
    exact n
/-- what is new to a heap with the bag is not the bag -/
theorem bag_new (B : Bag H b c) (n : H p = none) : p ≠ b := (B.free n).1
/-- bag stays where only another list changes -/
theorem bag_upd (B : Bag H b c) (n : H p = none) : Bag (upd H p o) b c := B.same (same_new n)
/-- the bag with a list of its own changed: p is neither -/
theorem bag_put (B : Bag H b c) (hb : p ≠ b) (hc : p ≠ c) : Bag (upd H p o) b c := B.put hb hc
end
/-- pure steps hand the bag on -/
theorem bag_same {H H' : Hp} {b c : Addr} (B : Bag H b c) (s : Same H H') : Bag H' b c := B.same s
end Ko

/-! two values alike -/
namespace Ko
open PySem L2 PySem.Spec PyProof.Rows Xm
/-- nested at most so deep, no list longer than a thousand -/
def Dt.ok : Nat → Dt → Prop
  | _, .non => True
  | _, .bl _ => True
  | _, .int _ => True
  | _, .str _ => True
  | 0, .lst _ => False
  | 0, .tup _ => False
  | n + 1, .lst l => l.length ≤ 1000 ∧ ∀ x ∈ l, Dt.ok n x
  | n + 1, .tup l => l.length ≤ 1000 ∧ ∀ x ∈ l, Dt.ok n x
def spLike (n : Nat) : Sp := fun vs H Q _ => ∃ x y d, vs = [x, y] ∧ Dq H x d ∧ Dq H y d ∧ Dt.ok n d ∧ ∀ H', Same H H' → Q (.bl true) H'
theorem kLTF {K : Fg} {t : String} (h1 : kitB t "list" = some false) (h2 : kitB t "tuple" = some false) : PySem.W.kitAny K (.type t) [.type "list", .type "tuple"] = some false :=
  kitAny_cons (kit_ty h1) (fun _ => kitAny_cons (kit_ty h2) (fun _ => kitAny_nil) (fun e => by cases e)) (fun e => by cases e)
theorem kLTT {K : Fg} {t : String} {b1 b2 : Bool} (h1 : kitB t "list" = some b1) (h2 : kitB t "tuple" = some b2) (hb : (b1 || b2) = true) : PySem.W.kitAny K (.type t) [.type "list", .type "tuple"] = some true :=
  kitAny_cons (kit_ty h1) (fun e => kitAny_cons (kit_ty h2) (fun e2 => by rw [e, e2] at hb; cases hb) fun _ => rfl) (fun _ => rfl)
section
variable {H : Hp} {Q : VK} {K : Fg} {a tp : Addr} {x : V} {t : Value} {b : Bool}
theorem g_isiLT (q : Q (.bl b) H) (h : H tp = some (.tup [.ty "list", .ty "tuple"])) (ht : TyX K H x t) (hb : PySem.W.kitAny K t [.type "list", .type "tuple"] = some b) : rgIsiT K [x, .ref tp] H Q :=
  ⟨x, tp, _, t, [.type "list", .type "tuple"], b, rfl, h, .cons (.ty _) (.cons (.ty _) .nil), ht, hb, q⟩
theorem g_LT_int {i : Int} (q : Q (.bl false) H) (h : H tp = some (.tup [.ty "list", .ty "tuple"])) : rgIsiT K [.int i, .ref tp] H Q := g_isiLT q h (TyX.base (.int i)) (kLTF kit_int_list kit_int_tuple)
theorem g_LT_str {i : Str} (q : Q (.bl false) H) (h : H tp = some (.tup [.ty "list", .ty "tuple"])) : rgIsiT K [.str i, .ref tp] H Q := g_isiLT q h (TyX.base (.str i)) (kLTF kit_str_list kit_str_tuple)
theorem g_LT_bl {i : Bool} (q : Q (.bl false) H) (h : H tp = some (.tup [.ty "list", .ty "tuple"])) : rgIsiT K [.bl i, .ref tp] H Q := g_isiLT q h (TyX.base (.bl i)) (kLTF kit_bool_list kit_bool_tuple)
theorem g_LT_non (q : Q (.bl false) H) (h : H tp = some (.tup [.ty "list", .ty "tuple"])) : rgIsiT K [.non, .ref tp] H Q := g_isiLT q h (TyX.base .non) (kLTF kit_NoneType_list kit_NoneType_tuple)
theorem g_LT_lst {xs : List V} (q : Q (.bl true) H) (h : H tp = some (.tup [.ty "list", .ty "tuple"])) (ha : H a = some (.lst xs)) : rgIsiT K [.ref a, .ref tp] H Q := g_isiLT q h (TyX.base (.lst ha)) (kLTT kit_list_list kit_list_tuple rfl)
theorem g_LT_tup {xs : List V} (q : Q (.bl true) H) (h : H tp = some (.tup [.ty "list", .ty "tuple"])) (ha : H a = some (.tup xs)) : rgIsiT K [.ref a, .ref tp] H Q := g_isiLT q h (TyX.base (.tup ha)) (kLTT kit_tuple_list kit_tuple_tuple rfl)
theorem g_iZipA {ta : TA} {σ : Sg} {R : It → Hp → Prop} (q : ta σ H fun vs H1 => ∃ a b xs ys, vs = [.ref a, .ref b] ∧ ((SqL K H1 a xs ∧ SqL K H1 b ys ∧ R (Itz K a b) H1) ∨ (SqT K H1 a xs ∧ SqT K H1 b ys ∧ R (RZ.ItzT K a b) H1))) : RZ.iZipA K ta σ H R := q
end
theorem walk_zipT {K : Fg} {a b : Addr} {xs ys : List V} {n : Nat} (hn : n = min xs.length ys.length) : Walk (RZ.ItzT K a b) n (fun H => SqT K H a xs ∧ SqT K H b ys) (YPair (fun i => xs[i]?) (fun i => ys[i]?)) := by
  subst hn
  refine ⟨fun i H hi q => ?_, fun H q => ⟨xs, ys, q.1, q.2, by omega⟩, fun i H v H' hi q y => ?_⟩
  · have l1 : i < xs.length := by omega
    have l2 : i < ys.length := by omega
    exact ⟨xs, ys, xs[i], ys[i], q.1, q.2, by simp [l1], by simp [l2]⟩
  · obtain ⟨T, x, z, e1, e2, e3, e4, e5⟩ := y
    exact ⟨T, x, z, e1, e2, e3, e4 xs q.1, e5 ys q.2⟩
theorem gm_pair {K : Fg} {i j : Nat} : ∀ x (σ : Sg) (H : Hp) (R R' : Sg → Hp → Prop), (∀ b H', R b H' → R' b H') → gTup K 2 (gCons (gName i) (gCons (gName j) gNil)) x σ H R → gTup K 2 (gCons (gName i) (gCons (gName j) gNil)) x σ H R' := fun x σ H R R' h q => by
  obtain ⟨a, xs, e1, e2, e3, v, r, e4, v2, r2, e5, e6, q⟩ := q
  exact ⟨a, xs, e1, e2, e3, v, r, e4, v2, r2, e5, e6, h _ _ q⟩
theorem g_wipe2 {K : Fg} {i j : Nat} {t : Addr} {x y : V} {σ : Sg} {H : Hp} {vs : List Nat} {R : Sg → Hp → Prop} (h : SqT K H t [x, y]) (e : wipe ((σ.set i (some x)).set j (some y)) vs = wipe σ vs) (q : R ((σ.set i (some x)).set j (some y)) H) :
    gTup K 2 (gCons (gName i) (gCons (gName j) gNil)) (.ref t) σ H fun σ2 H2 => wipe σ2 vs = wipe σ vs ∧ R σ2 H2 := ⟨t, _, rfl, h, rfl, x, _, rfl, y, _, rfl, rfl, e, q⟩
end Ko

/-! pairs of ints compared as data -/
namespace Ko
open PySem L2 PySem.Spec PyProof.Rows Xm
def pqD (q : Pq) : PyData := .tuple [.int q.1, .int q.2]
theorem eqv_pq (p q : Pq) : PyData.eqv (pqD p) (pqD q) = decide (p = q) := by
  obtain ⟨a, b⟩ := p
  obtain ⟨c, d⟩ := q
  show (a == c && (b == d && true)) = _
  by_cases h : a = c
  · by_cases k : b = d
    · subst h k
      simp
    · rw [decide_eq_false (fun z => k (Prod.mk.inj z).2)]
      simp [k]
  · rw [decide_eq_false (fun z => h (Prod.mk.inj z).1)]
    simp [h]
theorem any_pq (q : Pq) : ∀ qs : List Pq, ((qs.map pqD).any fun z => PyData.eqv z (pqD q)) = decide (q ∈ qs)
  | [] => by simp
  | p :: qs => by
    rw [List.map_cons, List.any_cons, eqv_pq, any_pq q qs]
    by_cases h : p = q
    · subst h
      simp
    · have h' : ¬ q = p := fun z => h z.symm
      simp [h, h']
theorem shp_pq (q : Pq) : SeqAt.shaped (pqD q) = true := rfl
theorem shp_pqs (qs : List Pq) : SeqAt.shaped (.list (qs.map pqD)) = true := by
  have h1 : ∀ qs : List Pq, PyData.canLayAll0 (qs.map pqD) = true := fun qs => by
    induction qs with
    | nil => rfl
    | cons q qs ih =>
      show (PyData.canLay0 (pqD q) && PyData.canLayAll0 (qs.map pqD)) = true
      rw [ih]
      rfl
  have h2 : ∀ qs : List Pq, PyData.depthAll (qs.map pqD) ≤ 1 := fun qs => by
    induction qs with
    | nil => decide
    | cons q qs ih =>
      show max (PyData.depth (pqD q)) (PyData.depthAll (qs.map pqD)) ≤ 1
      have : PyData.depth (pqD q) = 1 := rfl
      omega
  have h3 := h2 qs
  show (PyData.canLayAll0 (qs.map pqD) && decide (PyData.depthAll (qs.map pqD) + 1 ≤ 64)) = true
  rw [h1 qs, decide_eq_true (by omega)]
  rfl
section
variable {K : Fg} {H : Hp} {Q : VK} {a b : Addr} {p q : Pq} {qs : List Pq} {vs : List V}
theorem pr_dp {v : V} (h : Pr H v q) : Dp K H v (pqD q) := by
  obtain ⟨a, rfl, h⟩ := h
  exact .tup (SqT.of h) (.cons (.int _) (.cons (.int _) .nil))
theorem prs_dp {vs : List V} {qs : List Pq} (h : Paired (Pr H) vs qs) : DpAll K H vs (qs.map pqD) := by
  induction h with
  | nil => exact .nil
  | cons h _ ih => exact .cons (pr_dp h) ih
theorem g_notInP {v : V} (k : Q (.bl (!decide (q ∈ qs))) H) (hv : Pr H v q) (hl : SqL K H b vs) (hp : Paired (Pr H) vs qs) : rNotInD K v (.ref b) H Q :=
  ⟨pqD q, qs.map pqD, pr_dp hv, .lst hl (prs_dp hp), shp_pq q, shp_pqs qs, by rw [any_pq]; exact k⟩
theorem g_eqP {v w : V} (k : Q (.bl (decide (p = q))) H) (hv : Pr H v p) (hw : Pr H w q) : rEqD K v w H Q :=
  ⟨pqD p, pqD q, pr_dp hv, pr_dp hw, shp_pq p, shp_pq q, by rw [eqv_pq]; exact k⟩
theorem notInD_K {X : Cx} (K : Fg) (hu : X.A.units + 65 < cLine) (h : X.K = K := by rfl) : OpR X (compareOp .NotIn) (rNotInD K) := h ▸ op_notInD hu
theorem eqD_K {X : Cx} (K : Fg) (hu : X.A.units + 64 < cLine) (h : X.K = K := by rfl) : OpR X (compareOp .Eq) (rEqD K) := h ▸ op_eqD hu
end
theorem hu65 {A : Around} {k : Nat} (hr : Room k A) : A.units + 65 < cLine := by
  have := hr.un
  omega
section
variable {H : Hp} {b c t : Addr} {xs : List V}
theorem mk_tup (h : H t = some (.tup xs)) (B : Bag H b c) : delH H b t = some (.tup xs) := mk_at h (B.neTup h)
theorem mk_lst (h : H t = some (.lst xs)) (B : Bag H b c) (n : xs.length ≠ 5) : delH H b t = some (.lst xs) := mk_at h (B.nePair h n)
end
section
variable {σ : Sg} {H : Hp} {D : Ends} {i j l : Nat} {a : TA}
theorem g_par3 (q : a σ H fun vs H1 => ∃ u v w, vs = [u, v, w] ∧ D.nx (((σ.set i (some u)).set j (some v)).set l (some w)) H1) : tPar3 i j l a D σ H := q
theorem g_par3E {u v w : V} {f : V → V → V → Prop} (q : f u v w) : ∃ u' v' w', [u, v, w] = [u', v', w'] ∧ f u' v' w' := ⟨u, v, w, rfl, q⟩
end
/-! calls with keywords alone -/
theorem pe_callK0 {X : Cx} {CX : CXT} {k : Nat} {f : Addr} {fd : FuncData} {ps ks : List Str} {sp : Sp} {E : XK} {x : Str} {p pos : Pos} {kws : List Keyword} {tk : TA} {g : List Value → List Value → List Value} {gV : List V → List V → List V}
    (Fk : FnOk X.prog X.w X.K X.mg X.base CX k f fd ps sp) (hr : Room k X.A) (hg : Gl X x) (hm : X.mg x = some (.ref f)) (hk : PySem.W.keepIn X.K (.ref f) = true) (hb : KBinds X.K fd ps ks g gV) (hx : Passes CX X E)
    (hkw : PK X kws tk) (named : (backToKw pos (keywordEach kws X.env)).all (·.1.isSome) = true := by rfl) (names : (backToKw pos (keywordEach kws X.env)).filterMap (·.1) = ks := by rfl)
    (hdb : (x == ("__debug__" : Str)) = false := by decide)
    (noStar : ((backTo pos (starEach [] X.env)).any (·.1) || (backToKw pos (keywordEach kws X.env)).any (·.1.isNone)) = false := by rfl) :
    PE X (.Call (.Name x p) [] kws pos) (tCallK sp gV E tNil tk) := by
  refine ⟨fun pins s σ H Q I h => wpAny_Call_Name_kw (ld_glob I hg hm ?_ hdb)⟩
  refine PySem.W.callWith_KW0 (h₀ := X.base) I.ok.mod.kin hk named (thn (hkw.run pos pins s σ H _ I h) fun ws s2 hh => ?_) noStar
  obtain ⟨zs, H2, I2, rz, q2⟩ := hh
  refine ⟨I2.kIn, ?_⟩
  rw [names]
  exact run_fnk Fk hr hb hx I2 (vs := []) (us := []) .nil rz q2
theorem kbs {K : PySem.W.Frag} {x qual : Str} {st : Stmt} {f : Addr} {fd : FuncData} {ps : List Str} (F : Fun K x qual st f fd) (ks : List Str) (g : {α : Type} → List α → List α → List α)
    (hg : ∀ (vs zs : List V) (us ws : List Value), Vals vs us → Vals zs ws → Vals (g vs zs) (g us ws))
    (h : ∀ (kV doc pm : Value) (an : Option Addr) (cdv ct : Value) (us ws : List Value), (g us ws).length = ps.length →
      bindArgs (PySem.W.fnOf x qual (defArgs st) (defBody st) (defScope st) .none kV doc pm an cdv ct) ⟨us, ks.zip ws⟩ = pure (ps.zip (g us ws))) : KBinds K fd ps ks (fun us ws => g us ws) (fun us ws => g us ws) := by
  obtain ⟨oc, od, kV, doc, pm, an, cdv, ct, osl, rfl, lk, hcd⟩ := F.ex
  exact ⟨fun s us ws X l1 => .of_eq (h kV doc pm an cdv ct us ws l1), fun r1 r2 => hg _ _ _ _ r1 r2⟩
/-- a def that is called with keywords -/
structure DfK (P : Program) (w : World) (K : PySem.W.Frag) (mg : Str → Option Value) (base : Heap) (k : Nat) (x : Str) (f : Addr) (ps ks : List Str) (jn : {α : Type} → List α → List α → List α) (sp : Sp) : Prop where
  g : mg x = some (.ref f)
  kp : PySem.W.keepIn K (.ref f) = true
  ok : ∃ fd, FnOk P w K mg base CX0 k f fd ps sp ∧ KBinds K fd ps ks (fun us ws => jn us ws) (fun us ws => jn us ws)
theorem g_krev {H : Hp} {Q : VK} {E : XK} {sp : Sp} {x y : V} (q : sp [x, y] H Q E) : sp ((fun us ws => us ++ ws.reverse) [] [y, x]) H Q E := q
theorem g_kapp {H : Hp} {Q : VK} {E : XK} {sp : Sp} {x : V} (q : sp [x] H Q E) : sp ((fun us ws => us ++ ws) [] [x]) H Q E := q
end Ko

/-! Texts that are numbers, and texts that are none: mathematics -/
namespace Xm
open PySem TL
theorem spl_nil (acc : List Nat) : spl [47] 0 acc [] = [acc] := by
  unfold spl
  rfl
theorem spl_step (acc : List Nat) (c : Nat) (r : List Nat) : spl [47] 0 acc (c :: r) = if c = 47 then acc :: spl [47] 0 [] r else spl [47] 0 (acc ++ [c]) r := by
  rw [spl]
  by_cases h : c = 47
  · subst h
    rw [if_pos (by rfl), if_pos rfl]
    rfl
  · rw [if_neg (by unfold pre; simp [h]), if_neg h]
theorem spl_free : ∀ (l acc : List Nat), ¬ 47 ∈ l → spl [47] 0 acc l = [acc ++ l]
  | [], acc, _ => by rw [spl_nil, List.append_nil]
  | c :: r, acc, h => by
    rw [spl_step, if_neg (fun z => h (by rw [z]; exact .head _)), spl_free r _ (fun z => h (.tail _ z)), List.append_assoc]
    rfl
theorem spl_cut : ∀ (l acc r : List Nat), ¬ 47 ∈ l → spl [47] 0 acc (l ++ 47 :: r) = (acc ++ l) :: spl [47] 0 [] r
  | [], acc, r, _ => by
    rw [List.nil_append, spl_step, if_pos rfl, List.append_nil]
  | c :: l, acc, r, h => by
    rw [List.cons_append, spl_step, if_neg (fun z => h (by rw [z]; exact .head _)), spl_cut l _ r (fun z => h (.tail _ z)), List.append_assoc]
    rfl
theorem spl_in {c : Nat} (h47 : c ≠ 47) : ∀ (l acc : List Nat), c ∈ acc ∨ c ∈ l → ∃ w ∈ spl [47] 0 acc l, c ∈ w
  | [], acc, h => by
    rw [spl_nil]
    exact ⟨acc, .head _, h.elim id (fun z => by cases z)⟩
  | x :: r, acc, h => by
    rw [spl_step]
    split
    · rename_i e
      rcases h with h | h
      · exact ⟨acc, .head _, h⟩
      · rcases List.mem_cons.mp h with z | z
        · exact absurd (z.trans e) h47
        · obtain ⟨w, hw, hc⟩ := spl_in h47 r [] (.inr z)
          exact ⟨w, .tail _ hw, hc⟩
    · refine spl_in h47 r _ ?_
      rcases h with h | h
      · exact .inl (List.mem_append_left _ h)
      · rcases List.mem_cons.mp h with z | z
        · exact .inl (by rw [z]; simp)
        · exact .inr z
theorem bad_part {neg : Bool} {ws : List (List Nat)} {w : List Nat} (h : w ∈ ws) (hd : hasDig w = false) : readW neg ws = none := by
  match ws, h with
  | [x], h =>
    rw [List.mem_singleton.mp h] at hd
    show (if hasDig x then _ else none) = none
    rw [hd]
    rfl
  | [x, y], h =>
    show (if hasDig x && hasDig y then _ else none) = none
    have e : (hasDig x && hasDig y) = false := by
      rcases List.mem_cons.mp h with z | z
      · rw [← z, hd]
        rfl
      · rw [← List.mem_singleton.mp z, hd, Bool.and_false]
    rw [e]
    rfl
  | _ :: _ :: _ :: _, _ => rfl
theorem no_dig {w : List Nat} {c : Nat} (h : c ∈ w) (hc : dig c = false) : hasDig w = false := by
  cases e : hasDig w with
  | false => rfl
  | true =>
    unfold hasDig at e
    simp only [Bool.and_eq_true] at e
    rw [List.all_eq_true.mp e.2.2.2 c h] at hc
    cases hc
theorem no_nil : hasDig [] = false := by decide
theorem no_zero {l : List Nat} (h : l ≠ []) : hasDig (48 :: l) = false := by
  unfold hasDig
  have : (((48 :: l).head? == some 48) && decide (1 < (48 :: l).length)) = true := by
    have : 0 < l.length := List.length_pos_iff.mpr h
    simp
    omega
  rw [this]
  simp
theorem no_long {l : List Nat} (h : 60 < l.length) : hasDig l = false := by
  unfold hasDig
  rw [decide_eq_false (show ¬ l.length ≤ 60 by omega)]
  simp
/-- a sign that stands in no number -/
theorem bad_char {l : List Nat} {c : Nat} (h : c ∈ l) (h45 : c ≠ 45) (h47 : c ≠ 47) (hc : dig c = false) : readL l = none := by
  unfold readL
  split
  · rename_i e
    match l, h, e with
    | x :: r, h, e =>
      have e : x = 45 := by simpa using e
      rcases List.mem_cons.mp h with z | z
      · exact absurd (z.trans e) h45
      · obtain ⟨w, hw, hcw⟩ := spl_in h47 r [] (.inr z)
        exact bad_part hw (no_dig hcw hc)
  · obtain ⟨w, hw, hcw⟩ := spl_in h47 l [] (.inr h)
    exact bad_part hw (no_dig hcw hc)
/-- a dash that isn't ahead -/
theorem bad_dash {l : List Nat} (h : 45 ∈ l.drop 1) : readL l = none := by
  unfold readL
  split
  · obtain ⟨w, hw, hcw⟩ := spl_in (c := 45) (by decide) (l.drop 1) [] (.inr h)
    exact bad_part hw (no_dig hcw (by decide))
  · obtain ⟨w, hw, hcw⟩ := spl_in (c := 45) (by decide) l [] (.inr (List.mem_of_mem_drop h))
    exact bad_part hw (no_dig hcw (by decide))
theorem dash_app {l r : List Nat} (h : l ≠ []) (h45 : 45 ∈ r) : 45 ∈ (l ++ r).drop 1 := by
  match l, h with
  | x :: l, _ => exact List.mem_append_right _ h45
/-! digits -/
theorem numL_dig {n c : Nat} (h : c ∈ numL n) : dig c = true := by
  have := numL_digits n c h
  unfold dig
  rw [decide_eq_true this.1, decide_eq_true this.2]
  rfl
theorem numL_sl {n : Nat} : ¬ 47 ∈ numL n := numL_free (.inl (by decide))
theorem head_app {α : Type} {l r : List α} (h : l ≠ []) : (l ++ r).head? = l.head? := by
  cases l with
  | nil => exact absurd rfl h
  | cons x l => rfl
theorem numL_head : ∀ (n : Nat), (numL n).head? ≠ some 45 ∧ (0 < n → (numL n).head? ≠ some 48) := by
  intro n
  induction n using Nat.strongRecOn with
  | ind n ih =>
    by_cases h : n < 10
    · rw [numL_lt h]
      refine ⟨?_, fun z => ?_⟩
      · simp
        omega
      · simp
        omega
    · obtain ⟨h1, h2⟩ := ih (n / 10) (by omega)
      rw [numL_step (by omega), head_app (numL_ne _)]
      exact ⟨h1, fun _ => h2 (by omega)⟩
theorem numL_ge : ∀ (k n : Nat), 10 ^ k ≤ n → k + 1 ≤ (numL n).length
  | 0, n, _ => List.length_pos_iff.mpr (numL_ne n)
  | k + 1, n, h => by
    have p : 0 < 10 ^ k := Nat.pow_pos (by decide)
    have e : 10 ^ (k + 1) = 10 ^ k * 10 := Nat.pow_succ ..
    have h10 : 10 ≤ n := by omega
    have := numL_ge k (n / 10) (by omega)
    rw [numL_step h10, List.length_append]
    simp only [List.length_cons, List.length_nil]
    omega
theorem has_num {n : Nat} (h : n < 10 ^ 60) : hasDig (numL n) = true := by
  have h1 := List.length_pos_iff.mpr (numL_ne n)
  have h2 := numL_le (k := 60) (by decide) h
  unfold hasDig
  rw [decide_eq_true (show 1 ≤ (numL n).length by omega), decide_eq_true h2]
  have h3 : ((numL n).head? == some 48 && decide (1 < (numL n).length)) = false := by
    by_cases z : n = 0
    · subst z
      decide
    · have := (numL_head n).2 (by omega)
      simp [this]
  have h4 : (numL n).all dig = true := List.all_eq_true.mpr fun c hc => numL_dig hc
  rw [h3, h4]
  rfl
theorem big_num {n : Nat} (h : 10 ^ 60 ≤ n) : hasDig (numL n) = false := no_long (numL_ge 60 n h)
/-! ints -/
theorem tlI_ne (n : Int) : tlI n ≠ [] := by
  unfold tlI
  split
  · simp
  · exact numL_ne _
theorem read_slash (n : Int) (r : List Nat) : readL (tlI n ++ 47 :: r) = readW (decide (n < 0)) (numL n.natAbs :: spl [47] 0 [] r) := by
  unfold readL tlI
  by_cases h : n < 0
  · rw [if_pos h, if_pos (by simp), decide_eq_true h]
    show readW true (spl [47] 0 [] (numL n.natAbs ++ 47 :: r)) = _
    rw [spl_cut _ _ _ numL_sl]
    rfl
  · rw [if_neg h, if_neg (by rw [head_app (numL_ne _)]; exact (numL_head _).1), decide_eq_false h, spl_cut _ _ _ numL_sl]
    rfl
theorem read_one (n : Int) : readL (tlI n) = readW (decide (n < 0)) [numL n.natAbs] := by
  unfold readL tlI
  by_cases h : n < 0
  · rw [if_pos h, if_pos (by simp), decide_eq_true h]
    show readW true (spl [47] 0 [] (numL n.natAbs)) = _
    rw [spl_free _ _ numL_sl]
    rfl
  · rw [if_neg h, if_neg (numL_head _).1, decide_eq_false h, spl_free _ _ numL_sl]
    rfl
theorem read_two (n : Int) (d : Nat) : readL (tlI n ++ 47 :: numL d) = readW (decide (n < 0)) [numL n.natAbs, numL d] := by
  rw [read_slash, spl_free _ _ numL_sl]
  rfl
theorem sgn_abs (n : Int) : sgn (decide (n < 0)) n.natAbs = n := by
  unfold sgn
  by_cases h : n < 0
  · rw [decide_eq_true h, if_pos rfl]
    omega
  · rw [decide_eq_false h, if_neg (by decide)]
    omega
theorem not_neg0 (n : Int) : (decide (n < 0) && decide (val (numL n.natAbs) = 0)) = false := by
  rw [show val (numL n.natAbs) = n.natAbs from numL_val _, Bool.and_eq_false_iff, decide_eq_false_iff_not, decide_eq_false_iff_not]
  omega
theorem readW_one {n : Int} (h : n.natAbs < 10 ^ 60) : readW (decide (n < 0)) [numL n.natAbs] = some (n, 1) := by
  show (if hasDig (numL n.natAbs) then (if (decide (n < 0) && decide (val (numL n.natAbs) = 0)) then none else some (sgn (decide (n < 0)) (val (numL n.natAbs)), 1)) else none) = _
  rw [has_num h, if_pos rfl, not_neg0, if_neg (by decide), show val (numL n.natAbs) = n.natAbs from numL_val _, sgn_abs]
theorem readW_two {n : Int} {d : Nat} (h : n.natAbs < 10 ^ 60) (hd : d < 10 ^ 60) : readW (decide (n < 0)) [numL n.natAbs, numL d] = if d < 2 ∨ 1 < Nat.gcd n.natAbs d then none else some (n, (d : Int)) := by
  show (if hasDig (numL n.natAbs) && hasDig (numL d) then (if (decide (n < 0) && decide (val (numL n.natAbs) = 0)) then none else if decide (val (numL d) < 2) || decide (1 < Nat.gcd (val (numL n.natAbs)) (val (numL d))) then none else some (sgn (decide (n < 0)) (val (numL n.natAbs)), (val (numL d) : Int))) else none) = _
  rw [has_num h, has_num hd, if_pos (show (true && true) = true from rfl), not_neg0, if_neg (by decide), show val (numL n.natAbs) = n.natAbs from numL_val _, show val (numL d) = d from numL_val _, sgn_abs]
  by_cases c : d < 2
  · rw [decide_eq_true c, if_pos (by rfl), if_pos (.inl c)]
  · by_cases c2 : 1 < Nat.gcd n.natAbs d
    · rw [decide_eq_true c2, Bool.or_true, if_pos rfl, if_pos (.inr c2)]
    · rw [decide_eq_false c, decide_eq_false c2, if_neg (by decide), if_neg (by omega)]
/-- what isn't in lowest terms is no number -/
theorem bad_two {n : Int} {d : Nat} (h : d < 2 ∨ 1 < Nat.gcd n.natAbs d) : readL (tlI n ++ 47 :: numL d) = none := by
  rw [read_two]
  by_cases h1 : n.natAbs < 10 ^ 60
  · by_cases h2 : d < 10 ^ 60
    · rw [readW_two h1 h2, if_pos h]
    · exact bad_part (w := numL d) (by simp) (big_num (by omega))
  · exact bad_part (w := numL n.natAbs) (by simp) (big_num (by omega))
theorem bad_big {n : Int} (h : 10 ^ 60 ≤ n.natAbs) : readL (tlI n) = none := by
  rw [read_one]
  exact bad_part (.head _) (big_num h)
theorem bad_bigL {n : Int} {r : List Nat} (h : 10 ^ 60 ≤ n.natAbs) : readL (tlI n ++ 47 :: r) = none := by
  rw [read_slash]
  exact bad_part (.head _) (big_num h)
/-- a part behind the first slash that is none -/
theorem bad_rest {n : Int} {r : List Nat} (h : hasDig r = false) (hs : ¬ 47 ∈ r) : readL (tlI n ++ 47 :: r) = none := by
  rw [read_slash, spl_free _ _ hs]
  exact bad_part (.tail _ (.head _)) h
theorem bad_three {n : Int} {a b : List Nat} : readL (tlI n ++ 47 :: (a ++ 47 :: b)) = none := by
  rw [read_slash]
  obtain ⟨c, c2, e⟩ : ∃ c c2, ∃ l, spl [47] 0 [] (a ++ 47 :: b) = c :: c2 :: l := by
    have gen : ∀ (a acc : List Nat), ∃ c c2 l, spl [47] 0 acc (a ++ 47 :: b) = c :: c2 :: l := by
      intro a
      induction a with
      | nil =>
        intro acc
        rw [List.nil_append, spl_step, if_pos rfl]
        obtain ⟨x, l, e⟩ := List.exists_cons_of_ne_nil (spl_ne [47] b 0 [])
        exact ⟨acc, x, l, by rw [e]⟩
      | cons x a ih =>
        intro acc
        rw [List.cons_append, spl_step]
        split
        · obtain ⟨c, c2, l, e⟩ := ih []
          exact ⟨acc, c, c2 :: l, by rw [e]⟩
        · exact ih _
    obtain ⟨c, c2, l, e⟩ := gen a []
    exact ⟨c, c2, l, e⟩
  obtain ⟨l, e⟩ := e
  rw [e]
  rfl
theorem tlc0 : tl (" " : Str) = [32] := by decide +kernel
theorem tlc1 : tl ("\n" : Str) = [10] := by decide +kernel
theorem tlc3 : tl ("+" : Str) = [43] := by decide +kernel
theorem tlc4 : tl ("-0" : Str) = [45, 48] := by decide +kernel
theorem tlc5 : tl ("00" : Str) = [48, 48] := by decide +kernel
theorem tlc6 : tl ("--" : Str) = [45, 45] := by decide +kernel
theorem tlc7 : tl ("/1" : Str) = [47, 49] := by decide +kernel
theorem tlc8 : tl ("/0" : Str) = [47, 48] := by decide +kernel
theorem tlc9 : tl ("/-" : Str) = [47, 45] := by decide +kernel
theorem tlc10 : tl (" /" : Str) = [32, 47] := by decide +kernel
theorem tlc11 : tl ("/ " : Str) = [47, 32] := by decide +kernel
theorem tlc12 : tl (".5" : Str) = [46, 53] := by decide +kernel
theorem tlc13 : tl (".0" : Str) = [46, 48] := by decide +kernel
theorem tlc14 : tl ("" : Str) = [] := by decide +kernel
theorem tlc15 : tl ("e1" : Str) = [101, 49] := by decide +kernel
theorem tlc16 : tl ("0x" : Str) = [48, 120] := by decide +kernel
theorem tlc17 : tl ("1_" : Str) = [49, 95] := by decide +kernel
theorem tlc18 : tl ("one" : Str) = [111, 110, 101] := by decide +kernel
theorem tlc19 : tl ("a/b" : Str) = [97, 47, 98] := by decide +kernel
theorem tlc20 : tl ("1/" : Str) = [49, 47] := by decide +kernel
theorem tlc21 : tl ("-3/" : Str) = [45, 51, 47] := by decide +kernel
theorem tlc22 : tl ("/7" : Str) = [47, 55] := by decide +kernel
theorem tlc23 : tl ("(" : Str) = [40] := by decide +kernel
theorem tlc24 : tl (", " : Str) = [44, 32] := by decide +kernel
theorem tlc25 : tl (")" : Str) = [41] := by decide +kernel
theorem tlc26 : tl ("," : Str) = [44] := by decide +kernel
theorem tlc27 : tl ("//" : Str) = [47, 47] := by decide +kernel
theorem tlc28 : tl (":2" : Str) = [58, 50] := by decide +kernel
theorem tl_none : tl Str.empty = [] := rfl
theorem bad_first {r : List Nat} : readL (47 :: r) = none := by
  unfold readL
  rw [if_neg (by simp), spl_step, if_pos rfl]
  exact bad_part (.head _) no_nil
theorem bad_zero {n : Nat} : readL (48 :: numL n) = none := by
  unfold readL
  rw [if_neg (by simp), spl_free _ _ (fun z => by rcases List.mem_cons.mp z with e | e; cases e; exact numL_sl e)]
  exact bad_part (.head _) (no_zero (numL_ne _))
theorem bad_zeroD {n : Nat} : readL (45 :: 48 :: numL n) = none := by
  unfold readL
  rw [if_pos (by simp)]
  show readW true (spl [47] 0 [] (48 :: numL n)) = none
  rw [spl_free _ _ (fun z => by rcases List.mem_cons.mp z with e | e; cases e; exact numL_sl e)]
  exact bad_part (.head _) (no_zero (numL_ne _))
theorem tlI_abs (n : Int) : tlI (if n < 0 then -n else n) = numL n.natAbs := by
  unfold tlI
  split
  · rw [if_neg (by omega), Int.natAbs_neg]
  · rfl
theorem tlI_pos {n : Int} (h : 0 ≤ n) : tlI n = numL n.natAbs := by
  unfold tlI
  rw [if_neg (by omega)]
end Xm

/-! Comprehensions whose elements draw from the bag -/
namespace Ko
open PySem L2 PySem.Spec PyProof.Rows Xm
/-- all but D stands beside the bag -/
abbrev ButB (b D : Addr) (H H' : Hp) : Prop := ∀ a o, a ≠ D → delH H b a = some o → delH H' b a = some o
theorem lcB {J : It} {n : Nat} {G : Hp → Prop} {Y : Nat → Hp → V → Hp → Prop} (w : Walk J n G Y) {g : TG} {te : TE} {vs : List Nat} {σ : Sg} {H1 : Hp} {D b c : Addr} {Qd : Hp → Prop} (nD : H1 D = none) (B : Bag H1 b c)
    (F : Hp → Nat → V → Prop) (hn : n ≤ 100000) (hG : ∀ H2, Same (delH H1 b) (delH H2 b) → Bag H2 b c → G H2) (mono : ∀ H H' k y, ButB b D H H' → F H k y → F H' k y)
    (he : ∀ k x H2 H2', k < n → Same (delH H1 b) (delH H2 b) → Bag H2 b c → (∃ acc, H2 D = some (.lst acc)) → Y k H2 x H2' → ∀ (Kt : VK), (∀ y H5, Same (delH H2 b) (delH H5 b) → Bag H5 b c → F H5 k y → Kt y H5) →
      g x (wipe σ vs) H2' fun σ2 H3 => wipe σ2 vs = wipe σ vs ∧ te σ2 H3 Kt)
    (q : ∀ H' ys, Same (delH H1 b) (delH H' b) → Bag H' b c → H' D = some (.lst ys) → ys.length = n → (∀ k v, ys[k]? = some v → F H' k v) → Qd H')
    (gm : ∀ x σ H (R R' : Sg → Hp → Prop), (∀ b H', R b H' → R' b H') → g x σ H R → g x σ H R') :
    ∃ W : Nat → Nat → Hp → Prop, (∃ m, W 0 m (upd H1 D (.lst []))) ∧ ∀ i m H, W i m H →
      (J.stop i H ∧ Qd H) ∨ (J.go i H ∧ ∃ Nx : Hp → Prop, (∀ H', Nx H' → ∃ m', m' < m ∧ W (i + 1) m' H') ∧ ∀ x H', J.yld i H x H' → g x (wipe σ vs) H' fun σ2 H2 => wipe σ2 vs = wipe σ vs ∧ tYes σ2 H2 fun b H3 =>
        if b = true then te σ2 H3 fun y H4 => ∃ acc, H4 D = some (.lst acc) ∧ acc.length < sizeLine ∧ Nx (upd H4 D (.lst (acc ++ [y]))) else Nx H3) := by
  have hDb : D ≠ b := (B.free nD).1
  have hDc : D ≠ c := (B.free nD).2
  refine lc_it w (fun i H => ∃ ys, H D = some (.lst ys) ∧ Same (delH H1 b) (delH H b) ∧ Bag H b c ∧ ys.length = i ∧ ∀ k v, ys[k]? = some v → F H k v) ⟨[], upd_same, mk_upd nD, bag_upd B nD, rfl, fun k v h => by simp at h⟩ (fun i H _ h => ?_) (fun i x H H' hi h y => ?_) (fun H h => ?_)
  · obtain ⟨ys, _, s, B2, _⟩ := h
    exact hG H s B2
  · obtain ⟨ys, hD, s, B2, hl, hf⟩ := h
    refine gm _ _ _ _ _ (fun σ2 H3 z => ⟨z.1, ?_⟩) (he i x H H' hi s B2 ⟨ys, hD⟩ y (fun y H4 => ∃ acc, H4 D = some (.lst acc) ∧ acc.length < sizeLine ∧ ∃ ys, upd H4 D (.lst (acc ++ [y])) D = some (.lst ys) ∧ Same (delH H1 b) (delH (upd H4 D (.lst (acc ++ [y]))) b) ∧ Bag (upd H4 D (.lst (acc ++ [y]))) b c ∧ ys.length = i + 1 ∧ ∀ k v, ys[k]? = some v → F (upd H4 D (.lst (acc ++ [y]))) k v) fun y H5 s5 B5 f => ?_)
    · refine g_yes ?_
      exact iteT z.2
    · have hD5 : H5 D = some (.lst ys) := mk_same _ _ (s5 _ _ (mk_at hD hDb))
      have but : ButB b D H5 (upd H5 D (.lst (ys ++ [y]))) := fun a o h e => by
        have hb := mk_ne e
        rw [delH_ne hb, upd_ne h, ← delH_ne hb (H := H5)]
        exact e
      refine ⟨ys, hD5, Nat.lt_of_lt_of_le (show ys.length < 100000 + 1 by omega) (by rw [sizeLine_eq]; decide), ys ++ [y], upd_same, fun a o e => ?_, bag_put B5 hDb hDc, by simp [hl], fun k v hk => ?_⟩
      · have ha : a ≠ D := ne_of_none e (mk_none nD)
        exact but a o ha (s5 _ _ (s _ _ e))
      · rcases Nat.lt_or_ge k ys.length with lt | ge
        · rw [List.getElem?_append_left lt] at hk
          exact mono _ _ _ _ but (mono _ _ _ _ (fun a o _ e => s5 _ _ e) (hf k v hk))
        · rw [List.getElem?_append_right ge] at hk
          have e0 : k - ys.length = 0 := by
            rcases Nat.eq_zero_or_pos (k - ys.length) with z | z
            · exact z
            · rw [List.getElem?_eq_none (by simp; omega)] at hk
              cases hk
          rw [e0] at hk
          have ek : k = i := by omega
          subst ek
          cases hk
          exact mono _ _ _ _ but f
  · obtain ⟨ys, hD, s, B2, hl, hf⟩ := h
    exact q H ys s B2 hD hl hf
/-- numbers of at most sixty digits -/
def BigQ (q : Pq) : Prop := Lo q ∧ q.1.natAbs < 10 ^ 60 ∧ q.2.natAbs < 10 ^ 60
/-- a list of numbers, drawn from -/
def Pool (M : Hp) (vs : List V) : Prop := ∀ v ∈ vs, ∃ t n d, v = .ref t ∧ M t = some (.tup [.int n, .int d]) ∧ BigQ (n, d)
theorem Pool.same {M M' : Hp} {vs : List V} (s : Same M M') (h : Pool M vs) : Pool M' vs := fun v hv => by
  obtain ⟨t, n, d, e, ht, hb⟩ := h v hv
  exact ⟨t, n, d, e, s _ _ ht, hb⟩
theorem Pool.snoc {M : Hp} {vs : List V} {t : Addr} {n d : Int} (h : Pool M vs) (ht : M t = some (.tup [.int n, .int d])) (hb : BigQ (n, d)) : Pool M (vs ++ [.ref t]) := fun v hv => by
  rcases List.mem_append.mp hv with hv | hv
  · exact h v hv
  · exact ⟨t, n, d, List.mem_singleton.mp hv, ht, hb⟩
theorem Dq.pr {H : Hp} {t : Addr} {x y : Int} (h : H t = some (.tup [.int x, .int y])) : Dq H (.ref t) (.tup [.int x, .int y]) := .tup h (.cons (.int _) (.cons (.int _) .nil))
section
variable {H : Hp} {Q : VK} {l a : Addr} {xs zs : List V}
theorem g_catK (k : ∀ p, H p = none → Q (.ref p) (upd H p (.lst (xs ++ zs)))) (h : H l = some (.lst xs)) (h' : H a = some (.lst zs)) (s : xs.length + zs.length ≤ 100000) : rCat (.ref l) (.ref a) H Q := ⟨l, a, xs, zs, rfl, rfl, h, h', small_line s, k⟩
theorem g_isB {x y : Bool} (q : Q (.bl (decide (x = y))) H) : rIsB (.bl x) (.bl y) H Q := ⟨x, y, rfl, rfl, q⟩
end
/-! lists and tuples of lists; one of two promises -/
def rgListOf (K : Fg) : List V → Hp → VK → Prop := fun xs H Q => ∃ (p : Addr) (ys : List V), xs = [.ref p] ∧ (SqL K H p ys ∨ SqT K H p ys) ∧ ∀ l, H l = none → Q (.ref l) (upd H l (.lst ys))
theorem cg_listOf {X : Cx} (K : Fg) (h : X.K = K := by rfl) : CallR X (.type "list") (rgListOf K) := h ▸ call_list_of
def rgTupOf (K : Fg) : List V → Hp → VK → Prop := fun xs H Q => ∃ (p : Addr) (ys : List V), xs = [.ref p] ∧ ((SqL K H p ys ∧ ∀ l, H l = none → Q (.ref l) (upd H l (.tup ys))) ∨ SqT K H p ys ∧ Q (.ref p) H)
theorem cg_tupOf {X : Cx} (K : Fg) (h : X.K = K := by rfl) : CallR X (.type "tuple") (rgTupOf K) := h ▸ call_tuple_of
section
variable {K : Fg} {H : Hp} {Q : VK} {p : Addr} {ys : List V}
theorem g_listOf (q : ∀ l, H l = none → Q (.ref l) (upd H l (.lst ys))) (h : SqL K H p ys) : rgListOf K [.ref p] H Q := ⟨p, ys, rfl, .inl h, q⟩
theorem g_tupOf (q : ∀ l, H l = none → Q (.ref l) (upd H l (.tup ys))) (h : SqL K H p ys) : rgTupOf K [.ref p] H Q := ⟨p, ys, rfl, .inl ⟨h, q⟩⟩
end
theorem fnOk_or {P : Program} {w : World} {K : Fg} {mg : Str → Option Value} {base : Heap} {CX : CXT} {k : Nat} {f : Addr} {fd : FuncData} {ps : List Str} {sp sp' : Sp} (h : FnOk P w K mg base CX k f fd ps sp) (h' : FnOk P w K mg base CX k f fd ps sp') :
    FnOk P w K mg base CX k f fd ps fun vs H Q E => sp vs H Q E ∨ sp' vs H Q E :=
  ⟨fun _ _ _ _ z => z.elim (h.len _ _ _ _) (h'.len _ _ _ _), fun A outer s H args us vs Q E a b c d z => z.elim (h.run A outer s H args us vs Q E a b c d) (h'.run A outer s H args us vs Q E a b c d)⟩
end Ko

/-! Iterators that end while an exception is handled -/
namespace Ko
open PySem L2 L2H PySem.Spec PyProof.Rows HotX
section
variable {prog : Program} {w : World} {A : Around} {E : Value → Shared → Prop} {s : Shared} {x1 : Addr}
/-- another object than the one that is handled: it has not three fields -/
theorem hot_ne {h : Heap} {b : Addr} {o : Obj} {vs : Array Value} (hot : HotAt A x1 h) (e : h.get? b = some o) (d : o.data = .fields vs) (z : vs[2]? ≠ some Value.none) : x1 ≠ b := by
  obtain ⟨_, o1, v1, h1, d1, c1⟩ := hot
  intro q
  rw [q, e] at h1
  cases h1
  rw [d] at d1
  cases d1
  exact z c1
theorem hot_ne_cls {h : Heap} {b : Addr} {o : Obj} (hot : HotAt A x1 h) (e : h.get? b = some o) (d : ∀ vs, o.data = .fields vs → False) : x1 ≠ b := by
  obtain ⟨_, o1, v1, h1, d1, _⟩ := hot
  intro q
  rw [q, e] at h1
  cases h1
  exact d _ d1
theorem hot_keep {h h' : Heap} (hot : HotAt A x1 h) (k : ∀ o, h.get? x1 = some o → h'.get? x1 = some o) : HotAt A x1 h' := by
  obtain ⟨hh, o1, v1, h1, q⟩ := hot
  exact ⟨hh, o1, v1, k _ h1, q⟩
/-- StopIteration, raised there -/
theorem stop_hot {α : Type} {Q : α → Shared → Prop} (hot : HotAt A x1 s.heap)
    (hE : ∀ h' e, (∀ b o, s.heap.get? b = some o → h'.get? b = some o) → (∃ o, h'.get? e = some o ∧ o.cls = .type "StopIteration") → E (.ref e) { s with heap := h' }) :
    wpAny (model prog w) A (newExc (.type "StopIteration") [] >>= fun e => (raiseNew e : Sem α)) Q E s := by
  obtain ⟨hh, o1, v1, h1, d1, c1⟩ := hot
  refine wpAny_bind ?_
  simp only [newExc, newTuple]
  refine wpAny_bind (wpAny_newObj_type (wpAny_bind (m := firstArgMember _ _) (wpAny_of_eq (a := Value.none) (by first | rfl | (simp only [firstArgMember]; rfl)) (wpAny_newObj_type ?_ (by size_fits)))) (by size_fits))
  have k1 := Heap.get?_push_of_some { cls := .type "StopIteration", data := .fields #[.ref s.heap.objs.size, .none, .none, .none, .bool false] } (Heap.get?_push_of_some { cls := .type "tuple", data := .seq ([] : List Value).toArray } h1)
  refine raiseNew_hot ⟨hh, o1, v1, Heap.get?_push_of_some _ (Heap.get?_push_of_some _ h1), d1, c1⟩ (Nat.ne_of_lt (Heap.lt_size (Heap.get?_push_of_some _ h1))) (Heap.get?_push_size _ rfl) rfl (by first | (simp; done) | (simp; omega) | (simp only [Array.size_append]; simp; omega)) ?_
  refine hE _ _ (fun b o e => ?_) ⟨_, Heap.get?_update_self _ (Heap.get?_push_size _ rfl) rfl, rfl⟩
  have e2 := Heap.get?_push_of_some { cls := .type "tuple", data := .seq ([] : List Value).toArray } e
  rw [Heap.get?_update_other _ _ (Nat.ne_of_gt (Heap.lt_size e2))]
  exact Heap.get?_push_of_some _ e2
/-- an iterator over items that lie in a row, at its end -/
theorem rowit_hot {f : Builtin} (one : f = Builtin.«list_iterator.__next__» ∨ f = Builtin.«tuple_iterator.__next__») {it t : Addr} {i : Nat} {items : Array Value} {o ot : Obj} {n : Nat} {Q : Fin → Shared → Prop} (hot : HotAt A x1 s.heap) (io : s.heap.get? it = some o)
    (di : o.data = .fields #[.ref t, .int i 0]) (to : s.heap.get? t = some ot) (dt : ot.data = .seq items n) (no : items[i]? = none)
    (k : ∀ h' e, Heap.ExtBut it s.heap h' → (∃ u, h'.get? e = some u ∧ u.cls = .type "StopIteration") → E (.ref e) { s with heap := h' }) : wpAny (model prog w) A (f ⟨[.ref it], []⟩) Q E s := by
  have other := hot_ne hot io di (by simp)
  have some_t : ¬ ((Value.ref t == Value.none) = true) := Bool.false_ne_true
  have end_ : ∀ h' e, (∀ b u, (s.heap.update it (Obj.mapFields (·.setIfInBounds 0 .none))).get? b = some u → h'.get? b = some u) → (∃ u, h'.get? e = some u ∧ u.cls = .type "StopIteration") → E (.ref e) { s with heap := h' } :=
    fun h' e up z => k h' e (fun b u hb q => up b u ((Heap.SameBut.update ..).extBut b u hb q)) z
  have hot2 : HotAt A x1 (s.heap.update it (Obj.mapFields (·.setIfInBounds 0 .none))) := hot_keep hot fun o1 e1 => by
    rw [Heap.get?_update_other _ _ other.symm]
    exact e1
  rcases one with rfl | rfl
  all_goals
    refine wpAny_bind (m := field (.ref it) 0) (wpAny_field io di (x := .ref t) rfl (?_ : wpAny _ _ (if (Value.ref t == Value.none) = true then _ else _) _ _ s))
    rw [if_neg some_t]
    refine wpAny_bind (m := field (.ref it) 1) (wpAny_field io di (x := .int i 0) rfl (wpAny_bind (m := seqItems? (.ref t)) (wpAny_seqItems to dt ?_)))
    simp only [no, Int.toNat_natCast]
    exact wpAny_bind (wpAny_rule (wpAny_bind (wpAny_setField io di (by simp) (stop_hot hot2 end_))))
theorem tupit_hot {it t : Addr} {i : Nat} {items : Array Value} {Q : Fin → Shared → Prop} (hot : HotAt A x1 s.heap) (hit : IsTupIter s.heap it t i) (ht : IsTup s.heap t items) (no : items[i]? = none)
    (k : ∀ h' e, Heap.ExtBut it s.heap h' → (∃ u, h'.get? e = some u ∧ u.cls = .type "StopIteration") → E (.ref e) { s with heap := h' }) : wpAny (model prog w) A (Builtin.«tuple_iterator.__next__» ⟨[.ref it], []⟩) Q E s := by
  obtain ⟨o, io, _, di⟩ := hit
  obtain ⟨ot, to, _, n, dt⟩ := ht
  exact rowit_hot (.inr rfl) hot io di to dt no k
theorem lstit_hot {it l : Addr} {i : Nat} {items : Array Value} {Q : Fin → Shared → Prop} (hot : HotAt A x1 s.heap) (hit : s.heap.IsListIter it l i) (hl : s.heap.IsList l items) (no : items[i]? = none)
    (k : ∀ h' e, Heap.ExtBut it s.heap h' → (∃ u, h'.get? e = some u ∧ u.cls = .type "StopIteration") → E (.ref e) { s with heap := h' }) : wpAny (model prog w) A (Builtin.«list_iterator.__next__» ⟨[.ref it], []⟩) Q E s := by
  obtain ⟨o, io, _, di⟩ := hit
  obtain ⟨ol, to, _, n, dt⟩ := hl
  exact rowit_hot (.inl rfl) hot io di to dt no k
theorem next_tup_hot {it t : Addr} {i : Nat} {items : Array Value} {Q : Option Value → Shared → Prop} (hot : HotAt A x1 s.heap) (hit : IsTupIter s.heap it t i) (ht : IsTup s.heap t items) (hx : items[i]? = none)
    (q : ∀ h', Heap.ExtBut it s.heap h' → Q none { s with heap := h' }) : wpAny (model prog w) A (pyNext (.ref it)) Q E s := by
  unfold pyNext
  refine wpAny_bind (wpAny_attempt (wpAny_callSpecial?_slot (name := Str.ofString "__next__") hit.typeIs slot_tupleiter_next (wpAny_call_entry slot_tupleiter_next hit.typeIs entry_tupleiter_next (tupit_hot hot hit ht hx fun h' e k he => ?_) (args_tupleiter_next _))))
  obtain ⟨o, ho, hc⟩ := he
  exact wpAny_bind (wpAny_isInstance (T := "StopIteration") (b := true) ⟨o, ho, hc⟩ isSubtype_stop (wpAny_pure (q _ k)))
theorem next_lst_hot {it l : Addr} {i : Nat} {items : Array Value} {Q : Option Value → Shared → Prop} (hot : HotAt A x1 s.heap) (hit : s.heap.IsListIter it l i) (hl : s.heap.IsList l items) (hx : items[i]? = none)
    (q : ∀ h', Heap.ExtBut it s.heap h' → Q none { s with heap := h' }) : wpAny (model prog w) A (pyNext (.ref it)) Q E s := by
  unfold pyNext
  refine wpAny_bind (wpAny_attempt (wpAny_callSpecial?_slot (name := Str.ofString "__next__") hit.typeIs slot_listiter_next (wpAny_call_entry slot_listiter_next hit.typeIs entry_listiter_next (lstit_hot hot hit hl hx fun h' e k he => ?_) (args_listiter_next _))))
  obtain ⟨o, ho, hc⟩ := he
  exact wpAny_bind (wpAny_isInstance (T := "StopIteration") (b := true) ⟨o, ho, hc⟩ isSubtype_stop (wpAny_pure (q _ k)))
/-- the targets of a tuple take its items -/
theorem unpack_hot {t : Addr} {items : Array Value} {Q : List Value → Shared → Prop} (hot : HotAt A x1 s.heap) (ht : IsTup s.heap t items) (q : ∀ h', Heap.ExtBut s.heap.objs.size s.heap h' → Q items.toList { s with heap := h' }) :
    wpAny (model prog w) A (unpackItems (.ref t) items.size none) Q E s := by
  have lt : t ≠ s.heap.objs.size := by
    obtain ⟨o, ho, _⟩ := ht
    exact Nat.ne_of_lt (Heap.lt_size ho)
  have x1l : x1 ≠ s.heap.objs.size := by
    obtain ⟨_, o, _, ho, _⟩ := hot
    exact Nat.ne_of_lt (Heap.lt_size ho)
  unfold unpackItems
  refine wpAny_bind ?_
  unfold notIterableAtAll
  refine wpAny_bind (wpAny_specialOf ht.typeIs slot_tuple_iter.lookup (wpAny_pure ?_))
  rw [if_neg (by decide)]
  refine wpAny_bind (wpAny_holding (iter_tuple ht (wpAny_bind (wpAny_holding (draw_tuple lt items.size 0 _ _ ⟨_, Heap.get?_push_size _ rfl, rfl, rfl⟩ (ht.push _) (by omega) fun h1 i1 k1 => ?_)))))
  have all : (items.toList.drop 0).take items.size = items.toList := List.take_of_length_le (by simp)
  rw [all, if_neg (by simp)]
  have hot1 : HotAt A x1 h1 := hot_keep hot fun o e => k1.extBut _ _ x1l (Heap.get?_push_of_some _ e)
  refine wpAny_bind (wpAny_holding (next_tup_hot hot1 i1 ((ht.push _).extBut k1.extBut lt) (by simp) fun h2 k2 => ?_))
  rw [if_neg (by simp)]
  exact wpAny_pure (q h2 fun b o hb e => k2 b o hb (k1.extBut b o hb (Heap.get?_push_of_some _ e)))
theorem assign_hot {env : Env} {elts : List Expr} {k : Nat} {pos : Pos} {t : Addr} {items : Array Value} {Q : Unit → Shared → Prop} (hot : HotAt A x1 s.heap) (ht : IsTup s.heap t items)
    (hn : (assignEach elts env).length = items.size) (st : (assignEach elts env).findIdx? (·.1) = none)
    (q : ∀ h', Heap.ExtBut s.heap.objs.size s.heap h' → wpAny (model prog w) A (assignInOrder ((assignEach elts env).map (·.2)) items.toList) Q E { s with heap := h' }) : wpAny (model prog w) A (assign (.Tuple elts k pos) env (.ref t)) Q E s := by
  rw [assign_Tuple]
  refine wpAny_bind (wpAny_standAt ?_)
  unfold unpack
  rw [hn, st]
  exact wpAny_bind (wpAny_holding (unpack_hot hot ht q))
end
end Ko

/-! zip of two tuples, all of a list, a comprehension, while an exception is handled -/
namespace Ko
open PySem L2 L2H PySem.Spec PyProof.Rows HotX RZ
section
variable {prog : Program} {w : World} {A : Around} {E : Value → Shared → Prop} {s : Shared} {x1 : Addr}
theorem nextOf_hot {it t : Addr} {i : Nat} {items : Array Value} {Q : Value → Shared → Prop} (hot : HotAt A x1 s.heap) (hit : s.heap.IsTupleIter it t i) (ht : s.heap.IsTuple t items) (hx : items[i]? = none)
    (hE : ∀ h' e, Heap.ExtBut it s.heap h' → (∃ o, h'.get? e = some o ∧ o.cls = .type "StopIteration") → E (.ref e) { s with heap := h' }) : wpAny (model prog w) A (Builtin.SmallTypes.nextOf (.ref it)) Q E s := by
  unfold Builtin.SmallTypes.nextOf
  exact wpAny_bind (wpAny_callSpecial?_slot (name := Str.ofString "__next__") hit.typeIs F.slot_tuple_iterator_next (wpAny_call_entry F.slot_tuple_iterator_next hit.typeIs F.entry_tuple_iterator_next (tupit_hot hot hit ht hx hE) (F.args_tuple_iterator_next_1 _)))
theorem hot_it {h : Heap} {it t : Addr} {i : Nat} (hot : HotAt A x1 h) (hit : h.IsTupleIter it t i) : x1 ≠ it := by
  obtain ⟨o, ho, _, hd⟩ := hit
  exact hot_ne hot ho hd (by simp)
/-- one of the two is at its end -/
theorem zip_hot {q tin out j1 j2 t1 t2 : Addr} {n1 n2 : Nat} {xs ys : Array Value} {u v : Value} {Q : Fin → Shared → Prop} (hot : HotAt A x1 s.heap) (D : ZipApart q tin out j1 j2 t1 t2) (zq : IsZip s.heap q tin out .none) (ztin : IsPair s.heap tin (.ref j1) (.ref j2))
    (zout : IsPair s.heap out u v) (i1 : s.heap.IsTupleIter j1 t1 n1) (i2 : s.heap.IsTupleIter j2 t2 n2) (l1 : s.heap.IsTuple t1 xs) (l2 : s.heap.IsTuple t2 ys) (over : xs[n1]? = none ∨ ys[n2]? = none)
    (hE : ∀ h' e, (∀ c o, c ≠ q → c ≠ out → c ≠ j1 → c ≠ j2 → s.heap.get? c = some o → h'.get? c = some o) → (∃ o, h'.get? e = some o ∧ o.cls = .type "StopIteration") → E (.ref e) { s with heap := h' }) :
    wpAny (model prog w) A (Builtin.«zip.__next__» ⟨[.ref q], []⟩) Q E s := by
  have nq : x1 ≠ q := hot_ne hot zq rfl (by simp)
  have nout : x1 ≠ out := hot_ne_cls hot zout fun vs z => by cases z
  have nj1 := hot_it hot i1
  refine wpAny_bind (m := field (.ref q) 2) (wpAny_field zq rfl (x := .bool false) rfl (wpAny_bind (m := field (.ref q) 3) (wpAny_field zq rfl (x := .ref tin) rfl (wpAny_bind (wpAny_seqItems ztin rfl ?_)))))
  refine wpAny_bind (m := Builtin.SmallTypes.ownedTupleIsFree (.ref q)) ?_
  unfold Builtin.SmallTypes.ownedTupleIsFree
  refine wpAny_bind (m := field (.ref q) 0) (wpAny_field zq rfl (x := .none) rfl (wpAny_pure ?_))
  simp only [if_true]
  refine wpAny_bind (wpAny_rule (wpAny_bind (m := field (.ref q) 4) (wpAny_field zq rfl (x := .ref out) rfl (wpAny_bind (wpAny_setField_rec zq (by simp) fun ha za ka => ?_)))))
  replace za : IsZip ha q tin out .ellipsis := za
  have hota : HotAt A x1 ha := hot_keep hot fun o e => ka.extBut _ _ nq e
  refine wpAny_bind ?_
  simp only [List.zipIdx_cons, List.zipIdx_nil, List.forIn_cons, List.forIn_nil]
  refine wpAny_bind (wpAny_bind (wpAny_onRaise (wpAny_bind (m := Builtin.SmallTypes.nextOf (.ref j1)) ?_)))
  have cls_ne : ∀ {h : Heap} {e : Addr} {o : Obj} {f : Value}, IsZip h q tin out f → h.get? e = some o → o.cls = .type "StopIteration" → e ≠ q := fun {h e o f} z g c x => by
    subst x
    rw [z] at g
    cases g
    simp at c
  cases e1 : xs[n1]? with
  | none =>
    refine nextOf_hot hota (i1.extBut ka.extBut D.i1z) (l1.extBut ka.extBut D.l1z) e1 fun hb e kb he => ?_
    obtain ⟨oe, ge, ce⟩ := he
    have zb : IsZip hb q tin out .ellipsis := kb _ _ D.i1z.symm za
    exact wpAny_setField_rec zb (by simp) fun hc _ kc => hE hc e (fun c o c1 _ c3 _ g => kc.extBut _ _ c1 (kb _ _ c3 (ka.extBut _ _ c1 g))) ⟨oe, kc.extBut _ _ (cls_ne zb ge ce) ge, ce⟩
  | some x =>
    have e2 : ys[n2]? = none := over.elim (fun z => by rw [z] at e1; cases e1) id
    refine nextOf_tuple_item (i1.extBut ka.extBut D.i1z) (l1.extBut ka.extBut D.l1z) e1 fun hb ib kb => wpAny_pure ?_
    have hotb : HotAt A x1 hb := hot_keep hota fun o e => kb.extBut _ _ nj1 e
    have zob : IsPair hb out u v := kb.extBut _ _ D.TOi1 (ka.extBut _ _ D.TOz zout)
    refine wpAny_bind (wpAny_seqItems zob rfl (wpAny_bind (wpAny_updateSeq_pair zob fun hc zoc kc => wpAny_bind (wpAny_letGo (wpAny_pure ?_)))))
    have hotc : HotAt A x1 hc := hot_keep hotb fun o e => kc.extBut _ _ nout e
    refine wpAny_bind (wpAny_bind (wpAny_onRaise (wpAny_bind (m := Builtin.SmallTypes.nextOf (.ref j2)) ?_)))
    refine nextOf_hot hotc (((i2.extBut ka.extBut D.i2z).extBut kb.extBut D.i12.symm).extBut kc.extBut D.TOi2.symm) (((l2.extBut ka.extBut D.l2z).extBut kb.extBut D.l2i1).extBut kc.extBut D.l2TO) e2 fun hd e kd he => ?_
    obtain ⟨oe, ge, ce⟩ := he
    have zd : IsZip hd q tin out .ellipsis := kd _ _ D.i2z.symm (kc.extBut _ _ D.TOz.symm (kb.extBut _ _ D.i1z.symm za))
    exact wpAny_setField_rec zd (by simp) fun hf _ kf => hE hf e (fun c o c1 c2 c3 c4 g => kf.extBut _ _ c1 (kd _ _ c4 (kc.extBut _ _ c2 (kb.extBut _ _ c3 (ka.extBut _ _ c1 g))))) ⟨oe, kf.extBut _ _ (cls_ne zd ge ce) ge, ce⟩
theorem next_zip_hot {q tin out j1 j2 t1 t2 : Addr} {n1 n2 : Nat} {xs ys : Array Value} {u v : Value} {Q : Option Value → Shared → Prop} (hot : HotAt A x1 s.heap) (D : ZipApart q tin out j1 j2 t1 t2) (zq : IsZip s.heap q tin out .none) (ztin : IsPair s.heap tin (.ref j1) (.ref j2))
    (zout : IsPair s.heap out u v) (i1 : s.heap.IsTupleIter j1 t1 n1) (i2 : s.heap.IsTupleIter j2 t2 n2) (l1 : s.heap.IsTuple t1 xs) (l2 : s.heap.IsTuple t2 ys) (over : xs[n1]? = none ∨ ys[n2]? = none)
    (k : ∀ h', (∀ c o, c ≠ q → c ≠ out → c ≠ j1 → c ≠ j2 → s.heap.get? c = some o → h'.get? c = some o) → Q none { s with heap := h' }) : wpAny (model prog w) A (pyNext (.ref q)) Q E s := by
  have ty : s.TypeIs (.ref q) "zip" := ⟨_, zq, rfl⟩
  unfold pyNext
  refine wpAny_bind (wpAny_attempt (wpAny_callSpecial?_slot (name := Str.ofString "__next__") ty F.slot_zip_next (wpAny_call_entry F.slot_zip_next ty F.entry_zip_next (zip_hot hot D zq ztin zout i1 i2 l1 l2 over fun h' e g he => ?_) (F.args_zip_next_1 _))))
  obtain ⟨o, ho, hc⟩ := he
  exact wpAny_bind (wpAny_isInstance (T := "StopIteration") (b := true) ⟨o, ho, hc⟩ isSubtype_stop (wpAny_pure (k _ g)))
/-- a list's iterator walks -/
theorem walks_hot (I ax : Addr) (hne : ax ≠ I) (items : Array Value) : Walks prog w A I [I, ax, x1] [I] items.size (fun i v => items[i]? = some v) (fun i h => h.IsListIter I ax i ∧ h.IsList ax items ∧ HotAt A x1 h) where
  sub := fun b hb => by
    rw [List.mem_singleton.mp hb]
    simp
  frame := fun i h h' z k => ⟨z.1.at fun o => k I (by simp) o, z.2.1.at fun o => k ax (by simp) o, hot_keep z.2.2 fun o => k x1 (by simp) o⟩
  item := fun i s Q E hi z k => by
    have ne : x1 ≠ I := by
      obtain ⟨o, ho, _, hd⟩ := z.1
      exact hot_ne z.2.2 ho hd (by simp)
    refine wpAny_pyNext_list_item z.1 z.2.1 (x := items[i]) (by simp [hi]) fun h' a c => ?_
    exact k _ h' s.toks (by simp [hi]) ⟨a, z.2.1.extBut c.extBut hne, hot_keep z.2.2 fun o e => c.extBut _ _ ne e⟩ fun b o hb e => c.extBut b o (fun y => hb (by simp [y])) e
  done := fun s Q E z k => next_lst_hot z.2.2 z.1 z.2.1 (by simp) fun h' c => k h' s.toks fun b o hb e => c b o (fun y => hb (by simp [y])) e
  self := fun i s Q E z k => wpAny_pyIter_listiter z.1 k
end
section
variable {X : Cx}
theorem cr_allH (K : Fg) (hc : HotC X) (hK : X.K = K := by rfl) : CallR X (.builtin "all") (rAll K) := by
  subst hK
  intro pins s σ H vs us Q I r h
  obtain ⟨a, bs, rfl, hs, q⟩ := h
  obtain ⟨its, rv, hl, _⟩ := I.list hs
  obtain ⟨x1, hot⟩ := hc.at I
  rw [Vals.ref1 r]
  have hb := rv.bls
  refine call_all_walk (iter_any hl.isList fun t e z ne => ?_)
  subst e
  have hot1 : HotAt X.A.in1 x1 (s.heap.push { cls := .type "list_iterator", data := .fields #[.ref a, .int 0 0] }) := hot_keep (A := X.A.in1) hot fun o e => Heap.get?_push_of_some _ e
  refine ⟨_, _, _, _, _, _, _, rfl, walks_hot (A := X.A.in1) (x1 := x1) _ a ne its.toArray, ⟨z.1, z.2, hot1⟩, truth_bools hb, fun h' tk k => ?_⟩
  refine ⟨.bl _, H, I.kept fun b o eo => k b o (fun m => absurd (List.mem_singleton.mp m ▸ Heap.lt_size eo) (Nat.lt_irrefl _)) (Heap.get?_push_of_some _ eo), ?_, q⟩
  show Value.bool _ = Value.bool _
  rw [← L2.all_range, hb, List.size_toArray, List.length_map]
theorem pg_tupH {es : List Expr} {k : Nat} {pos : Pos} {t : TGs} {n : Nat} (hc : HotC X) (h : PGs X es t) (hn : (assignEach es X.env).length = n := by rfl) (st : (assignEach es X.env).findIdx? (·.1) = none := by rfl) : PG X (.Tuple es k pos) (gTup X.K n t) := by
  refine ⟨fun pins s σ H v u Q I r hw => ?_⟩
  obtain ⟨a, xs, rfl, sq, hl, z⟩ := hw
  cases r
  obtain ⟨its, rv, tp, _⟩ := I.tuple sq
  obtain ⟨x1, hot⟩ := hc.at I
  refine assign_hot hot tp (by simp [hn, ← hl, rv.length]) st fun h' e => ?_
  exact h.run pins _ σ H xs _ Q (I.kept (t' := s.toks) fun b o g => e b o (Nat.ne_of_lt (Heap.lt_size g)) g) (by simpa using rv) z
end
theorem turn_zipH {P : Program} {w : World} {K : PySem.W.Frag} {elts : List Expr} {kk : Nat} {pt : Pos} {a b q tin out j1 j2 : Addr} (D : ZipApart q tin out j1 j2 a b) :
    TurnH P w K (.Tuple elts kk pt) (ItzT K a b) [q, tin, out, j1, j2] q (fun i h => IsZip h q tin out .none ∧ IsPair h tin (.ref j1) (.ref j2) ∧ (∃ x y, IsPair h out x y) ∧ h.IsTupleIter j1 a i ∧ h.IsTupleIter j2 b i) where
  mem := by simp
  obj := (turn_zipT (P := P) (w := w) (K := K) (elts := elts) (kk := kk) (tpos := pt) D).obj
  keep := (turn_zipT (P := P) (w := w) (K := K) (elts := elts) (kk := kk) (tpos := pt) D).keep
  item := by
    rintro X rfl rfl rfl hc i pins s σ H E I hf ⟨zq, zt, ⟨x0, y0, zo⟩, i1, i2⟩ ⟨xs, ys, x, y, sx, sy, gx, gy⟩
    obtain ⟨its, rv, p, _⟩ := I.tuple sx
    obtain ⟨its2, rv2, p2, _⟩ := I.tuple sy
    obtain ⟨u, hu, ru⟩ := rv.get gx
    obtain ⟨u2, hu2, ru2⟩ := rv2.get gy
    have ql : q < s.heap.objs.size := Heap.lt_size zq
    have lt : ∀ c ∈ [q, tin, out, j1, j2], c < s.heap.objs.size := fun c hm => by
      obtain ⟨o, e, _⟩ := (turn_zipT (P := X.prog) (w := X.w) (K := X.K) (elts := elts) (kk := kk) (tpos := pt) D).obj i s.heap ⟨zq, zt, ⟨x0, y0, zo⟩, i1, i2⟩ c hm
      exact Heap.lt_size e
    refine pyNext_zipT_item D zq zt zo i1 i2 p p2 (x := u) (y := u2) (by simpa using hu) (by simpa using hu2) fun h1 zq1 zo1 i11 i21 nt sz k => ?_
    refine ⟨_, rfl, wpAny_letOwnedTupleGo_zip (s := { s with heap := h1 }) zq1 fun h2 zq2 sb => ?_⟩
    have nt2 : h2.get? s.heap.objs.size = some { cls := .type "tuple", data := .seq #[u, u2] } := (sb.2 _ (Nat.ne_of_gt ql)).trans nt
    have out5 : ∀ c o, c ∉ [q, tin, out, j1, j2] → s.heap.get? c = some o → h2.get? c = some o := fun c o hb g => by
      simp only [List.mem_cons, List.not_mem_nil, or_false, not_or] at hb
      exact (sb.2 c hb.1).trans (k c o hb.1 hb.2.2.1 hb.2.2.2.1 hb.2.2.2.2 g)
    have I1 : Inv X pins σ (upd H s.heap.objs.size (.tup [x, y])) { s with heap := h2 } :=
      I.turnedNew (t' := s.toks) out5 hf (Nat.le_refl _) ⟨by show 2 ≤ sizeLine; decide, [u, u2], .cons ru (.cons ru2 .nil), ⟨_, nt2, rfl, _, rfl⟩⟩
    refine ⟨.ref s.heap.objs.size, _, I1, rfl, ⟨_, x, y, rfl, I.hok.fresh (Nat.le_refl _), rfl, fun l e => (I.tuple_inj e sx).symm ▸ gx, fun l e => (I.tuple_inj e sy).symm ▸ gy⟩, ⟨zq2, ?_, ⟨u, u2, ?_⟩, ?_, ?_⟩, fun c hm => ?_⟩
    · exact (sb.2 _ D.TIz).trans (k _ _ D.TIz D.TITO D.TIi1 D.TIi2 zt)
    · exact (sb.2 _ D.TOz).trans zo1
    · exact i11.at fun o g => (sb.2 _ D.i1z).trans g
    · exact i21.at fun o g => (sb.2 _ D.i2z).trans g
    · rw [upd_ne (Nat.ne_of_lt (lt c hm))]
      exact (hf c hm).1
  done := by
    rintro X rfl rfl rfl hc i pins s σ H E I hf ⟨zq, zt, ⟨x0, y0, zo⟩, i1, i2⟩ ⟨xs, ys, sx, sy, fin⟩
    obtain ⟨its, rv, p, _⟩ := I.tuple sx
    obtain ⟨its2, rv2, p2, _⟩ := I.tuple sy
    obtain ⟨x1, hot⟩ := hc.at I
    have n1 := rv.length
    have n2 := rv2.length
    have over : its.toArray[i]? = none ∨ its2.toArray[i]? = none := fin.imp (fun z => by simp; omega) (fun z => by simp; omega)
    refine next_zip_hot hot D zq zt zo i1 i2 p p2 over fun h' k => ⟨rfl, I.turnedL (t' := s.toks) (ch := [q, tin, out, j1, j2]) (fun c o hb g => ?_) hf⟩
    simp only [List.mem_cons, List.not_mem_nil, or_false, not_or] at hb
    exact k c o hb.1 hb.2.2.1 hb.2.2.2.1 hb.2.2.2.2 g
  self := fun A i s Q E z k => wpAny_pyIter_zip z.1 k
def iZipH (K : PySem.W.Frag) (ta : TA) : TI := fun σ H R => ta σ H fun vs H1 => ∃ a b xs ys, vs = [.ref a, .ref b] ∧ SqT K H1 a xs ∧ SqT K H1 b ys ∧ R (ItzT K a b) H1
theorem pi_zipH {X : Cx} {e e2 : Expr} {ta : TA} {p pos pt : Pos} {elts : List Expr} {kk : Nat} (hg : Gl X "zip") (hm : X.mg "zip" = none) (ha : PA X [e, e2] ta)
    (hs : starEach [e, e2] X.env = (false, eval e X.env) :: starEach [e2] X.env := by rfl) (hpl : (backTo pos (starEach [e2] X.env)).any (·.1) = false := by rfl) :
    PIH X (.Tuple elts kk pt) (.Call (.Name "zip" p) [e, e2] [] pos) (iZipH X.K ta) := by
  refine ⟨fun pins s σ H R I h => Call_ (ld_blt I hg hm PyProof.Rows.boot_zip (PyProof.Rows.callWith_type1 (thn (ha.run pos pins s σ H _ I h) fun us s1 z => ?_) hs hpl))⟩
  obtain ⟨vs, H1, I1, r1, a, b, xs, ys, rfl, sx, sy, q⟩ := z
  obtain ⟨u1, u2, rfl, r1, r2⟩ := vals2 r1
  cases r1
  cases r2
  obtain ⟨its, rv, p1, _⟩ := I1.tuple sx
  obtain ⟨its2, rv2, p2, _⟩ := I1.tuple sy
  obtain ⟨o1, g1, _⟩ := id p1
  obtain ⟨o2, g2, _⟩ := id p2
  generalize hn : s1.heap.objs.size = n
  have new5 : ∀ c ∈ [n + 4, n + 2, n + 3, n, n + 1], FpOk X pins H1 c := fun c hm => by
    have le : n ≤ c := by
      simp only [List.mem_cons, List.not_mem_nil, or_false] at hm
      omega
    rw [← hn] at le
    exact I1.fpOk le (I1.hok.fresh le)
  refine call_zipT (show s1.heap.IsTuple a its.toArray from p1) (show s1.heap.IsTuple b its2.toArray from p2) fun h' c1 c2 c3 c4 c5 c6 k => ?_
  rw [hn] at c1 c2 c3 c4 c5 ⊢
  refine wpAny_pyIter_zip c1 ⟨n + 4, [n + 4, n + 2, n + 3, n, n + 1], _, _, H1, rfl, I1.kept (t' := s1.toks) k, turn_zipH (PySem.W.ktu_apart n a b (hn ▸ Heap.lt_size g1) (hn ▸ Heap.lt_size g2)), ⟨c1, c2, ⟨_, _, c3⟩, c4, c5⟩, new5, q⟩
end Ko

/-! A comprehension while an exception is handled -/
namespace Ko
open PySem L2 L2H PySem.Spec PyProof.Rows HotX RZ
/-- the block's context; the pins stay -/
abbrev bh (X : Cx) (s : Shared) (H : Hp) (scope : Scope) (env : Env) (fp : List Addr) : Cx := (X.blk s H scope env fp).tr X.pn fun _ _ => False
theorem hotC_bh {X : Cx} {s : Shared} {H : Hp} {scope : Scope} {env : Env} {fp : List Addr} (hc : HotC X) : HotC (bh X s H scope env fp) := hc
theorem loop_hot {B : Cx} {it D : Addr} {fp : List Addr} {tn : Nat → Heap → Prop} {J : It} {W : Nat → Nat → Hp → Prop} {elt tg iter : Expr} {scope : Scope} {pos : Pos} {g : TG} {te : TE} {vs : List Nat} {σ : Sg} {H3 : Hp} {Qd : Hp → Prop} {m0 : Nat} {s4 : Shared} {R : Result → Shared → Prop}
    (hc : HotC B) (nx : ∀ e s, B.xe e s → False) (T : TurnH B.prog B.w B.K tg J fp it tn) (pg : PG B tg g) (pe : PE B elt te) (ex : B.ex = fp) (noP : ∀ p ∈ B.pn, ∀ b ∈ fp, p.1 ≠ b)
    (turn : ∀ i m H, W i m H → (J.stop i H ∧ Qd H) ∨ (J.go i H ∧ ∃ Nx : Hp → Prop, (∀ H', Nx H' → ∃ m', m' < m ∧ W (i + 1) m' H') ∧ ∀ x H', J.yld i H x H' → g x (wipe σ vs) H' fun σ2 H2 => wipe σ2 vs = wipe σ vs ∧ tYes σ2 H2 fun b H3 =>
      if b = true then te σ2 H3 fun y H4 => ∃ acc, H4 D = some (.lst acc) ∧ acc.length < sizeLine ∧ Nx (upd H4 D (.lst (acc ++ [y]))) else Nx H3))
    (fin : ∀ s' H', Inv B [] (wipe σ vs) H' s' → Qd H' → R (.ok .next) s') (I4 : Inv B [] (wipe σ vs) H3 s4) (st4 : tn 0 s4.heap) (n4 : ∀ b ∈ fp, H3 b = none) (w4 : W 0 m0 H3) :
    codeAny (model B.prog B.w) B.A (.compLoop (.ListComp elt [⟨tg, iter, [], 0⟩] scope pos) 0 (.ref it) (.ref D) B.env) R s4 := by
  have go : ∀ {α : Type} {t : Sem α} {Q : α → Shared → Prop} {E : Value → Shared → Prop} {s : Shared}, wpAny (model B.prog B.w) B.A t Q B.xe s → wpAny (model B.prog B.w) B.A t Q E s := fun h => wpAny_mono h (fun _ _ z => z) fun e s z => (nx e s z).elim
  have okp : ∀ {σ' : Sg} {H' : Hp} {s' : Shared}, Inv B [] σ' H' s' → (∀ b ∈ fp, H' b = none) → ∀ b ∈ fp, FpOk B [] H' b := fun {σ' H' s'} I' hn b hb => by
    have hb' : b ∈ B.ex := ex.symm ▸ hb
    exact ⟨hn b hb, (I'.ok.exf b hb').1, I'.ok.exfs b hb', .inl hb', (I'.ok.exf b hb').2, fun p hp => noP p (by rw [List.append_nil] at hp; exact hp) b hb⟩
  refine compLoop_any (fun n s' => ∃ i H', Inv B [] (wipe σ vs) H' s' ∧ tn i s'.heap ∧ (∀ b ∈ fp, H' b = none) ∧ W i n H') (fun n s5 z => ?_) m0 ⟨0, H3, I4, st4, n4, w4⟩
  obtain ⟨i, H5, I5, st5, n5, w5⟩ := z
  rcases turn i n H5 w5 with ⟨halt, qq⟩ | ⟨more, Nx, hNx, step⟩
  · refine thnF (T.done B rfl rfl rfl hc i [] s5 _ H5 (fun _ _ => False) I5 (okp I5 n5) st5 halt) fun r s6 z => ?_
    obtain ⟨rfl, I6⟩ := z
    exact fin s6 H5 I6 qq
  · refine thnF (T.item B rfl rfl rfl hc i [] s5 _ H5 (fun _ _ => False) I5 (okp I5 n5) st5 more) fun r s6 z => ?_
    obtain ⟨u, rfl, z⟩ := z
    refine thnF z fun _ s7 y => ?_
    obtain ⟨x, H7, I7, r7, y7, st7, n7⟩ := y
    refine go (thn (pg.run _ s7 _ H7 x u _ (I7.pinned (okp I7 n7) (T.obj _ _ st7)) r7 (step x H7 y7)) fun _ s8 y => ?_)
    obtain ⟨σ8, H8, I8, hw, q8⟩ := y
    refine wpAny_tests_nil ?_
    have q9 := q8
    simp only [tYes, if_true] at q9
    refine go (thn (pe.run _ s8 σ8 H8 _ I8 q9) fun v s9 y => ?_)
    obtain ⟨yv, H9, I9, r9, acc, hD, sz, nxt⟩ := y
    refine app_ok (X := B) I9 hD sz r9 fun sa Ia => ?_
    obtain ⟨m', lt, w'⟩ := hNx _ nxt
    have still : ∀ b ∈ fp, ∀ o, s7.heap.get? b = some o → sa.heap.get? b = some o ∧ upd H9 D (.lst (acc ++ [yv])) b = none := fun b hb o e =>
      let z := Ia.pin (b, o) (List.mem_append_right _ (List.mem_append_right _ (mem_pinsAt hb e)))
      ⟨z.1, z.2.1⟩
    refine ⟨m', lt, i + 1, _, (Ia.unpinned (pins := [])).weak ?_ (fun j v e => ?_), T.keep _ _ _ st7 fun b hb o e => (still b hb o e).1, fun b hb => ?_, w'⟩
    · rw [← hw, wipe_length]
    · rw [← hw] at e
      exact (wipe_some e).1
    · obtain ⟨o, e, _⟩ := T.obj _ _ st7 b hb
      exact (still b hb o e).2
theorem pe_lcH {X : Cx} {elt tg iter : Expr} {scope : Scope} {own : List (Str × Nat)} {pos : Pos} {wi : TI} {g : TG} {te : TE} (hc : HotC X) (hN : X.N.Nodup) (hi : PIH X tg iter wi) (ok : BlkOk X.N X.env.scope scope own)
    (hg : ∀ (s : Shared) (H : Hp) (C : Addr) (cl : List (Str × Addr)) (fp : List Addr), PG (bh X s H scope (compEnvC scope cl C X.env) fp) tg g)
    (he : ∀ (s : Shared) (H : Hp) (C : Addr) (cl : List (Str × Addr)) (fp : List Addr), PE (bh X s H scope (compEnvC scope cl C X.env) fp) elt te) (hs : ∀ x, foldedSetIterable iter X.env x = pure x := by intro _; rfl) :
    PE X (.ListComp elt [⟨tg, iter, [], 0⟩] scope pos) (tLc wi g tYes te (own.map (·.2))) := by
  refine ⟨fun pins s σ H Q I h => ?_⟩
  rw [eval_ListComp]
  have free : ∀ y ∈ scope.names, y.2 = .free → ∃ c, X.env.cells.lookup y.1 = some c := fun y hy e => (ok.free y hy e).elim (fun k => I.ok.has _ (.inl k)) fun k => I.ok.has _ (.inr k)
  refine wpAny_comprehension_free rfl hs (closure_ok free) ok.kind (fun y hy e => by rw [ok.uniq y hy, e]) (thn (hi.run pins s σ H _ I h) fun xv t1 hx => thn hx fun itv t2 h2 => ?_)
  obtain ⟨it, fp, tn, J, H2, rfl, I2, T, st2, f2, q⟩ := h2
  refine wpAny_newObj_type (newEnv_comp ?_) (by show 0 ≤ sizeLine; decide)
  generalize eD : t2.heap.objs.size = D
  obtain ⟨W, ⟨m0, w0⟩, turn⟩ := q D (I2.hok.fresh (Nat.le_of_eq eD))
  generalize es : ({ t2 with heap := t2.heap.push { cls := .type "list", data := .seq ([] : List Value).toArray } } : Shared) = s3
  have up3 : ∀ b o, t2.heap.get? b = some o → s3.heap.get? b = some o := fun b o e => by
    rw [← es]
    exact Heap.get?_push_of_some _ e
  have new3 : s3.heap.get? D = some { cls := .type "list", data := .seq ([] : List Value).toArray } := by
    rw [← es, ← eD]
    exact Heap.get?_push_size _ rfl
  have I3 : Inv X pins σ (upd H2 D (.lst [])) s3 := by
    have z := I2.laid (t' := t2.toks) (h' := t2.heap.push { cls := .type "list", data := .seq ([] : List Value).toArray }) (o := .lst []) (fun b o e => Heap.get?_push_of_some _ e) (Nat.le_of_eq eD) ⟨Nat.zero_le _, [], 0, .nil, by rw [← eD]; exact Heap.get?_push_size _ rfl⟩
    rw [← es]
    exact z
  have lt3 : ∀ b ∈ fp, b < t2.heap.objs.size := fun b hb => by
    obtain ⟨o, e, _⟩ := T.obj _ _ st2 b hb
    exact Heap.lt_size e
  have f3 : ∀ b ∈ fp, FpOk X pins (upd H2 D (.lst [])) b ∧ b < s3.heap.objs.size := fun b hb => by
    obtain ⟨o, e, _⟩ := T.obj _ _ st2 b hb
    refine ⟨⟨?_, (f2 b hb).2⟩, Heap.lt_size (up3 b o e)⟩
    rw [upd_ne (eD ▸ Nat.ne_of_lt (lt3 b hb))]
    exact (f2 b hb).1
  have st3 : tn 0 s3.heap := T.keep _ _ _ st2 fun b _ o e => up3 b o e
  have I4 := block_start I3 ok hN f3
  have pg := hg s3 (upd H2 D (.lst [])) s3.heap.objs.size (cellsFrom (s3.heap.objs.size + 1) scope.names (cloFrom X.env.cells scope.names [])) fp
  have pe := he s3 (upd H2 D (.lst [])) s3.heap.objs.size (cellsFrom (s3.heap.objs.size + 1) scope.names (cloFrom X.env.cells scope.names [])) fp
  show codeAny _ _ (.compStart (.ListComp elt [⟨tg, iter, [], 0⟩] scope pos) 0 (.ref it) (.ref D) (compEnvC scope (cellsFrom (s3.heap.objs.size + 1) scope.names (cloFrom X.env.cells scope.names [])) s3.heap.objs.size X.env)) (compPost (model X.prog X.w) X.A X.xe _ _ (.ref D) s3.heap.objs.size) { s3 with heap := pushCells (s3.heap.push { cls := .type "dict", data := .dict #[] }) scope.names }
  generalize hce : compEnvC scope (cellsFrom (s3.heap.objs.size + 1) scope.names (cloFrom X.env.cells scope.names [])) s3.heap.objs.size X.env = ce at I4 pg pe ⊢
  have cL : ce.locals = s3.heap.objs.size := by
    rw [← hce]
    rfl
  generalize upd H2 D (.lst []) = H3 at I3 I4 pg pe w0 f3
  have up4 : ∀ b o, s3.heap.get? b = some o → (pushCells (s3.heap.push { cls := .type "dict", data := .dict #[] }) scope.names).get? b = some o := fun b o e => pushCells_keeps _ _ _ _ (Heap.get?_push_of_some _ e)
  generalize e4 : ({ s3 with heap := pushCells (s3.heap.push { cls := .type "dict", data := .dict #[] }) scope.names } : Shared) = s4 at I4 ⊢
  have up5 : ∀ b o, s3.heap.get? b = some o → s4.heap.get? b = some o := fun b o e => by
    rw [← e4]
    exact up4 b o e
  have Ib : Inv (bh X s3 H3 scope ce fp) [] (wipe σ (own.map (·.2))) H3 s4 := (I4.pins_of (pins' := X.pn) fun p hp => by
    have z := I3.pin p (List.mem_append_left _ hp)
    exact ⟨up5 _ _ z.1, z.2.1, fun y => absurd (Heap.lt_size z.1) (by rw [y, cL]; exact Nat.lt_irrefl _), fun m => (List.mem_cons.mp (I3.stkSub p.1 m)).elim z.2.2.1 z.2.2.2.1, z.2.2.2.2⟩).toTry fun _ _ => False
  have st4 : tn 0 s4.heap := T.keep _ _ _ st3 fun b _ o e => up5 b o e
  have loop := loop_hot (B := bh X s3 H3 scope ce fp) (elt := elt) (iter := iter) (scope := scope) (pos := pos) (R := compPost (model X.prog X.w) X.A X.xe none (fun v s' => EP X pins σ Q v s') (.ref D) s3.heap.objs.size) (hotC_bh hc) (fun _ _ z => z) T pg pe rfl (fun p hp b hb => (f3 b hb).1.2.2.2.2.2 p (List.mem_append_left _ hp)) turn (fun s' H' I' qq => ?_) Ib st4 (fun b hb => (f3 b hb).1.1) w0
  · exact codeAny_compStart_list loop (T.self X.A 0 _ _ _ st4 loop)
  · have I7 : Inv X pins σ H' s' := I3.call' (ch := fp) I'.os I'.base I'.hok I'.bare fun b hb => ⟨(f3 b hb).1.2.2.2.1, (f3 b hb).1.2.1, (f3 b hb).1.2.2.2.2.1, (f3 b hb).1.2.2.2.2.2⟩
    have nC : H' s3.heap.objs.size = none := by
      have z : H' ce.locals = none := I'.free
      rw [cL] at z
      exact z
    obtain ⟨m, hn, _⟩ := I'.loc
    have hn : s'.heap.Ns ce.locals m := hn
    rw [cL] at hn
    obtain ⟨a0, a1, a2, a3, a4, a5⟩ := I3.fpOk (Nat.le_refl _) nC
    exact ⟨m, hn, fun h'' sb => ⟨.ref D, H', I7.turned (t' := s'.toks) (fun b o hb e => (sb.2 b hb).trans e) a0 a1 a3 a4 a5, rfl, qq⟩⟩
end Ko


namespace Ko
open PySem L2 PySem.Spec PyProof.Rows Xm
def spWhole : Sp := fun vs H Q _ => ∃ v d, vs = [v] ∧ Dq H v d ∧ Q (.bl d.isInt) H
def spFrac : Sp := fun vs H Q _ => ∃ v d, vs = [v] ∧ Dq H v d ∧ Q (.bl d.isFrac) H
def spNum : Sp := fun vs H Q _ => ∃ v d, vs = [v] ∧ Dq H v d ∧ Q (.bl d.isNum) H
def spPair : Sp := fun vs H Q _ => ∃ x q, vs = [x] ∧ Nm H x q ∧ Ret H Q q
def spReduced : Sp := fun vs H Q _ => ∃ n d : Int, vs = [.int n, .int d] ∧ d ≠ 0 ∧ d.natAbs < 2 ^ 8900 ∧ Ret H Q (red n d)
def spOp (op : Pq → Pq → Pq) : Sp := fun vs H Q _ => ∃ x y p q, vs = [x, y] ∧ Nm H x p ∧ Nm H y q ∧ Lo p ∧ Lo q ∧ Sz 4400 p ∧ Sz 4400 q ∧ Ret H Q (op p q)
def spBelow : Sp := fun vs H Q _ => ∃ x y p q, vs = [x, y] ∧ Pr H x p ∧ Pr H y q ∧ Sz 4400 p ∧ Sz 4400 q ∧ Q (.bl (under p q)) H
def spCompare : Sp := fun vs H Q _ => ∃ x y p q, vs = [x, y] ∧ Nm H x p ∧ Nm H y q ∧ Sz 4400 p ∧ Sz 4400 q ∧ ∀ H', Same H H' → Q (.int (if under p q = true then -1 else if under q p = true then 1 else 0)) H'
section
variable {K : Fg} {H : Hp} {Q : VK} {E : XK} {x y v : V} {p q : Pq} {d : Dt}
theorem sp_whole (h : Dq H v d) (k : Q (.bl d.isInt) H) : spWhole [v] H Q E := ⟨v, d, rfl, h, k⟩
theorem sp_frac (h : Dq H v d) (k : Q (.bl d.isFrac) H) : spFrac [v] H Q E := ⟨v, d, rfl, h, k⟩
theorem sp_num (h : Dq H v d) (k : Q (.bl d.isNum) H) : spNum [v] H Q E := ⟨v, d, rfl, h, k⟩
theorem sp_pair (h : Nm H x q) (k : Ret H Q q) : spPair [x] H Q E := ⟨x, q, rfl, h, k⟩
theorem sp_reduced {n d : Int} (k : Ret H Q (red n d)) (h : d ≠ 0) (s : d.natAbs < 2 ^ 8900) : spReduced [.int n, .int d] H Q E := ⟨n, d, rfl, h, s, k⟩
theorem sp_op {op : Pq → Pq → Pq} (hx : Nm H x p) (hy : Nm H y q) (lp : Lo p) (lq : Lo q) (sp : Sz 4400 p) (sq : Sz 4400 q) (k : Ret H Q (op p q)) : spOp op [x, y] H Q E := ⟨x, y, p, q, rfl, hx, hy, lp, lq, sp, sq, k⟩
theorem sp_below (hx : Pr H x p) (hy : Pr H y q) (sp : Sz 4400 p) (sq : Sz 4400 q) (k : Q (.bl (under p q)) H) : spBelow [x, y] H Q E := ⟨x, y, p, q, rfl, hx, hy, sp, sq, k⟩
end
theorem sz_mul {a b : Int} (ha : a.natAbs < 2 ^ 4400) (hb : b.natAbs < 2 ^ 4400) : CMulW a b := wide_mul ha hb (by decide) (by decide) (by decide)
theorem sz_mulD {a b : Int} (ha : a.natAbs < 2 ^ 4400) (hb : b.natAbs < 2 ^ 4400) : (a * b).natAbs < 2 ^ 8900 := Nat.lt_of_lt_of_le (wide_lt ha hb) (Nat.pow_le_pow_right (by decide) (by decide))

local macro_rules | `(tactic| walk_at "hpS") => `(tactic| with_reducible first
  | exact Same.refl _
  | assumption
  | (refine' Same.trans ?hq (same_new (by assumption)); (case hq => walk_at "hpS"))
  | (refine' Same.trans ?hq (by assumption); (case hq => walk_at "hpS"))
  | fail)
local macro_rules | `(tactic| walk_at "hpH") => `(tactic| with_reducible first
  | assumption
  | exact upd_same
  | (refine' same_at (same_new (by assumption)) ?hq; (case hq => walk_at "hpH"))
  | (refine' same_at (by assumption) ?hq; (case hq => walk_at "hpH"))
  | fail)
local macro_rules | `(tactic| walk_at "hpTo") => `(tactic| with_reducible first
  | assumption
  | (refine' sq_t (same_new (by assumption)) ?hq; (case hq => walk_at "hpTo"))
  | (refine' sq_t (by assumption) ?hq; (case hq => walk_at "hpTo"))
  | fail)
local macro_rules | `(tactic| walk_at "hpT") => `(tactic| with_reducible first
  | (refine' SqT.of ?hq; (case hq => walk_at "hpH"))
  | walk_at "hpTo"
  | fail)
local macro_rules | `(tactic| walk_at "hpLo") => `(tactic| with_reducible first
  | assumption
  | (refine' sq_l (same_new (by assumption)) ?hq; (case hq => walk_at "hpLo"))
  | (refine' sq_l (by assumption) ?hq; (case hq => walk_at "hpLo"))
  | fail)
local macro_rules | `(tactic| walk_at "hpL") => `(tactic| with_reducible first
  | (refine' SqL.of ?hq; (case hq => walk_at "hpH"))
  | walk_at "hpLo"
  | fail)
local macro_rules | `(tactic| walk_at "kit") => `(tactic| with_reducible first
  | exact kit_int_bool | exact kit_int_int | exact kit_int_tuple | exact kit_int_list | exact kit_int_str
  | exact kit_tuple_tuple | exact kit_tuple_int | exact kit_tuple_bool | exact kit_tuple_list | exact kit_tuple_str
  | exact kit_bool_bool | exact kit_bool_int | exact kit_bool_tuple | exact kit_bool_list | exact kit_bool_str
  | exact kit_str_str | exact kit_str_int | exact kit_str_bool | exact kit_str_tuple | exact kit_str_list
  | exact kit_NoneType_int | exact kit_NoneType_bool | exact kit_NoneType_tuple | exact kit_NoneType_list | exact kit_NoneType_str
  | exact kit_list_list | exact kit_list_tuple | exact kit_list_int | exact kit_list_bool | exact kit_list_str
  | fail)
local macro_rules | `(tactic| walk_at "call") => `(tactic| fail)
local macro_rules | `(tactic| walk_at "s0") => `(tactic| with_reducible first
  | refine g_seq ?_ | refine g_asg ?_ | refine g_name ?_ | refine g_ifS ?_ | refine g_ret ?_ | refine g_retN ?_ | refine g_next ?_
  | refine g_par ?_ | refine g_parE ?_ | refine g_drop ?_
  | refine g_c ?_ | refine g_op ?_ | refine g_un ?_ | refine g_cb ?_ | refine g_call ?_ | refine g_nil ?_ | refine g_cons ?_ | refine g_tup ?_ | refine g_lst ?_
  | refine g_test ?_ | refine g_B ?_ | refine g_blF ?_ | refine g_and ?_ | refine g_or ?_ | refine g_not ?_ | refine g_andV ?_ | refine g_orV ?_ | refine g_notV ?_ | refine g_if ?_
  | refine iteT ?_ | refine iteF ?_
  | refine g_chain ?_ | refine g_sl ?_ | refine g_noPart ?_ | refine g_part ?_ | refine g_partI ?_ | refine g_slS ?_ ?side | refine g_M1 ?_ | refine g_M1s ?_ | refine g_starts ?_ | refine g_bm ?_ | refine g_bm0 ?_ | refine g_tyS ?_
  | refine g_Fs ?_ | refine g_JsN ?_ | refine g_JsC ?_ | refine g_JsE ?_ ?side | refine g_fmt ?_ | refine g_fmtI ?_ ?side | refine g_fmtS ?_ ?side | refine g_iList ?_ | refine g_iTup ?_ | refine g_iStr ?_ | refine g_iStrE ?_ | refine g_iRng1 ?_ | refine g_iRng1E ?_ ?side1 ?side2 | refine g_yes ?_ | refine g_ckw ?_ | refine g_dget ?_ | refine g_dictZip ?_ | refine g_gCons ?_ | refine g_gNil ?_ | refine g_revL ?_ | refine g_for ?_ | refine g_lc ?_ | refine g_addS ?_ ?side | refine g_str ?_ ?side | refine g_lenS ?_ ?side
  | refine g_rI0 ?_ | refine g_rI ?_ ?side | refine g_rU ?_ | refine g_abs ?_ | refine g_int ?_ | refine g_intB ?_ | refine g_gcd ?_ | refine g_inS ?_ | refine g_isN0 ?_ | refine g_notN0 ?_
  | fail)
local macro_rules | `(tactic| walk_at "s1") => `(tactic| first
  | ((with_reducible refine' g_var ?h ?_); (case h => exact rfl))
  | ((with_reducible refine' g_new ?h ?_); (case h => exact (by simp only [List.length_cons, List.length_nil]; decide)); intro tnew htnew)
  | ((with_reducible refine' iteDT ?h ?_); (case h => first | exact rfl | assumption))
  | ((with_reducible refine' iteNT ?h ?_); (case h => first | exact rfl | assumption))
  | ((with_reducible refine' iteDF ?h ?_); (case h => first | assumption | (intro z; cases z)))
  | ((with_reducible refine' iteNF ?h ?_); (case h => first | assumption | (intro z; cases z)))
  | ((with_reducible refine' g_eq ?_ ?h); (case h => exact rfl))
  | ((with_reducible refine' g_ne ?_ ?h); (case h => exact rfl))
  | ((with_reducible refine' g_ixT ?_ ?h ?e); (case h => walk_at "hpT"); (case e => first | exact rfl | exact atI_0 | exact atI_1))
  | ((with_reducible refine' g_ixL ?_ ?h ?e); (case h => walk_at "hpL"); (case e => first | exact rfl | exact atI_0 | exact atI_1))
  | ((with_reducible refine' g_isi_int ?_ ?h); (case h => walk_at "kit"))
  | ((with_reducible refine' g_isi_str ?_ ?h); (case h => walk_at "kit"))
  | ((with_reducible refine' g_isi_bl ?_ ?h); (case h => walk_at "kit"))
  | ((with_reducible refine' g_isi_non ?_ ?h); (case h => walk_at "kit"))
  | ((with_reducible refine' g_isi_t ?_ ?t ?h); (case t => walk_at "hpT"); (case h => walk_at "kit"))
  | ((with_reducible refine' g_isi_l ?_ ?t ?h ?l); (case l => walk_at "hpH"); (case t => walk_at "hpL"); (case h => walk_at "kit"))
  | ((with_reducible refine' g_lenT ?_ ?h); (case h => walk_at "hpT"))
  | ((with_reducible refine' g_lenL ?_ ?h); (case h => walk_at "hpL"))
  | ((with_reducible refine' g_split ?_ ?h ?side); (case h => exact rfl); intro pnew hpnew)
  | ((with_reducible refine' g_slL ?h ?_); (case h => walk_at "hpL"); intro pnew hpnew)
  | ((with_reducible refine' g_iListE ?_ ?h); (case h => walk_at "hpL"))
  | ((with_reducible refine' g_iTupE ?_ ?h); (case h => walk_at "hpT"))
  | ((with_reducible refine' g_tyL ?_ ?h); (case h => walk_at "hpL"))
  | ((with_reducible refine' g_join ?_ ?h ?side); (case h => walk_at "hpL"))
  | ((with_reducible refine' g_append ?_ ?h ?side); (case h => walk_at "hpH"))
  | ((with_reducible refine' g_all ?_ ?h); (case h => walk_at "hpL"))
  | ((with_reducible refine' g_gTup ?_ ?h ?n); (case h => walk_at "hpT"); (case n => exact rfl))
  | ((with_reducible refine' g_revLE ?h ?_); (case h => walk_at "hpL"); intro pnew hpnew)
  | ((with_reducible refine' g_isN1 ?_ ?h); (case h => first | assumption | (intro z; cases z)))
  | ((with_reducible refine' g_notN1 ?_ ?h); (case h => first | assumption | (intro z; cases z)))
  | walk_at "call"
  | ((with_reducible refine' iteBT ?h ?_); (case h => first | assumption | exact rfl))
  | ((with_reducible refine' iteBF ?h ?_); (case h => first | assumption | exact rfl))
  | fail)
local macro_rules | `(tactic| walk_at "nrm") => `(tactic| simp only [Bool.not_true, Bool.not_false, decide_eq_true_eq, decide_true, decide_false, Bool.true_and, Bool.false_and, Bool.and_true, Bool.and_false, V.int.injEq, V.bl.injEq, V.str.injEq, List.length_cons, List.length_nil, Bool.not_eq_true', decide_eq_false_iff_not, Int.not_lt, Int.not_le, reduceCtorEq, not_false_eq_true, not_true_eq_false, Decidable.not_not] at *)
local macro_rules | `(tactic| walk_at "sp") => `(tactic| ((with_reducible refine ite2 (fun c => ?_) (fun c => ?_)) <;> (try simp only [decide_eq_true_eq, Bool.not_eq_true', decide_eq_false_iff_not, V.int.injEq, V.bl.injEq, V.str.injEq, Int.not_lt, Int.not_le, reduceCtorEq, Decidable.not_not, Bool.false_eq_true, Bool.true_eq_false] at c) <;> (try (exfalso; omega))))
local macro_rules | `(tactic| walk_at "s") => `(tactic| first | walk_at "s0" | walk_at "s1" | fail)
local macro_rules | `(tactic| walk_at "go") => `(tactic| (try dsimp only [cxK, cxK']); repeat' walk_at "s")
local macro_rules | `(tactic| walk_at "gos") => `(tactic| ((try dsimp only [cxK, cxK']); repeat' (first | walk_at "s" | walk_at "sp" | fail)))

local macro_rules | `(tactic| walk_at "hpNo") => `(tactic| with_reducible first
  | assumption
  | (refine' Nm.ofPr ?hq; (case hq => assumption))
  | (refine' Nm.same (same_new (by assumption)) ?hq; (case hq => walk_at "hpNo"))
  | (refine' Nm.same (by assumption) ?hq; (case hq => walk_at "hpNo"))
  | fail)
local macro_rules | `(tactic| walk_at "hpN") => `(tactic| with_reducible first
  | walk_at "hpNo"
  | (refine' Nm.of ?hq; (case hq => walk_at "hpH"))
  | fail)
local macro_rules | `(tactic| walk_at "hpPo") => `(tactic| with_reducible first
  | assumption
  | (refine' Pr.same (same_new (by assumption)) ?hq; (case hq => walk_at "hpPo"))
  | (refine' Pr.same (by assumption) ?hq; (case hq => walk_at "hpPo"))
  | fail)
local macro_rules | `(tactic| walk_at "hpP") => `(tactic| with_reducible first
  | walk_at "hpPo"
  | (refine' Pr.of ?hq; (case hq => walk_at "hpH"))
  | fail)
local macro_rules | `(tactic| walk_at "hpDo") => `(tactic| with_reducible first
  | assumption
  | exact Dq.int _ | exact Dq.bl _ | exact Dq.str _ | exact Dq.non
  | (refine' Dq.same (same_new (by assumption)) ?hq; (case hq => walk_at "hpDo"))
  | (refine' Dq.same (by assumption) ?hq; (case hq => walk_at "hpDo"))
  | fail)
local macro_rules | `(tactic| walk_at "hpD") => `(tactic| with_reducible first
  | walk_at "hpDo"
  | fail)

local macro_rules | `(tactic| walk_at "call") => `(tactic| first
  | ((with_reducible refine' sp_pair ?h ?_); (case h => walk_at "hpN"); intro tp Hp' sp' hp')
  | ((with_reducible refine' sp_reduced ?_ ?h ?s); intro tp Hp' sp' hp')
  | ((with_reducible refine' sp_whole ?h ?_); (case h => walk_at "hpD"))
  | ((with_reducible refine' sp_frac ?h ?_); (case h => walk_at "hpD"))
  | ((with_reducible refine' sp_below ?h1 ?h2 ?s1 ?s2 ?_); (case h1 => walk_at "hpP"); (case h2 => walk_at "hpP"); (case s1 => assumption); (case s2 => assumption))
  | fail)
section
variable {P : Program} {w : World} {K : Fg} {mg : Str → Option Value} {base : Heap} {f f1 f2 f3 : Addr} {fd : FuncData}
theorem ok_pair (F : Fun K "pair" "pair" s_pair f fd) (T : Blt mg) : FnOk P w K mg base CX0 1 f fd ["a"] spPair := by
  refine F.ok sc_pair (fun vs H Q E h => ?_) (fun cdv A outer s H vs Q E hr h => ?_)
  · obtain ⟨x, q, rfl, _⟩ := h
    rfl
  · obtain ⟨x, q, rfl, hx, k⟩ := h
    refine ⟨_, (pss_cons (ps_if (pt_val (pe_callB (cg_isiK K) (by rfl) T.n_isinstance (by decide +kernel) (pa_cons (pv 0) (pa_cons (pe_bltn (v := .ty "int") (by rfl) T.n_int (by decide +kernel) rfl) pa_nil))))
      (pss_one (ps_ret (pe_tup (pa_cons (pv 0) (pa_cons pe_int pa_nil))))) pss_nil)
      (pss_one (ps_ret (pv 0)))), ?_⟩
    rcases hx with ⟨a, rfl, ha⟩ | ⟨rfl, e⟩
    · walk_at "go"
      exact k _ _ (Same.refl _) ha
    · walk_at "go"
      refine k _ _ ?_ ?_
      · walk_at "hpS"
      · rw [e]
        walk_at "hpH"
theorem ok_is_whole (F : Fun K "is_whole" "is_whole" s_is_whole f fd) (T : Blt mg) : FnOk P w K mg base CX0 1 f fd ["value"] spWhole := by
  refine F.ok sc_is_whole (fun vs H Q E h => ?_) (fun cdv A outer s H vs Q E hr h => ?_)
  · obtain ⟨x, q, rfl, _⟩ := h
    rfl
  · obtain ⟨x, d, rfl, hx, k⟩ := h
    refine ⟨_, (pss_one (ps_ret (pe_and (pe_callB (cg_isiK K) (by rfl) T.n_isinstance (by decide +kernel) (pa_cons (pv 0) (pa_cons (pe_bltn (v := .ty "int") (by rfl) T.n_int (by decide +kernel) rfl) pa_nil))) (pe_one (pe_not (pe_callB (cg_isiK K) (by rfl) T.n_isinstance (by decide +kernel) (pa_cons (pv 0) (pa_cons (pe_bltn (v := .ty "bool") (by rfl) T.n_bool (by decide +kernel) rfl) pa_nil)))))))), ?_⟩
    cases hx <;> (walk_at "go"; exact k)
theorem ok_is_fraction (F : Fun K "is_fraction" "is_fraction" s_is_fraction f fd) (T : Blt mg) (D_is_whole : Df P w K mg base 1 "is_whole" f1 ["value"] spWhole) : FnOk P w K mg base CX0 2 f fd ["value"] spFrac := by
  obtain ⟨_, G_is_whole, B_is_whole⟩ := D_is_whole.ok
  refine F.ok sc_is_fraction (fun vs H Q E h => ?_) (fun cdv A outer s H vs Q E hr h => ?_)
  · obtain ⟨x, q, rfl, _⟩ := h
    rfl
  · obtain ⟨x, d, rfl, hx, k⟩ := h
    refine ⟨_, (pss_one (ps_ret (pe_and (pe_callB (cg_isiK K) (by rfl) T.n_isinstance (by decide +kernel) (pa_cons (pv 0) (pa_cons (pe_bltn (v := .ty "tuple") (by rfl) T.n_tuple (by decide +kernel) rfl) pa_nil))) (pe_and (pe_cmpR op_eq (pe_callB (cg_lenK K) (by rfl) T.n_len (by decide +kernel) (pa_cons (pv 0) pa_nil)) pe_int (nomark _)) (pe_and (pe_call G_is_whole (hr.mono (by decide)) (by rfl) D_is_whole.g D_is_whole.kp B_is_whole .nil pass0 (pa_cons (pe_ix (ix_seqK K) (pv 0) pe_int (fun _ _ => rfl)) pa_nil)) (pe_one (pe_call G_is_whole (hr.mono (by decide)) (by rfl) D_is_whole.g D_is_whole.kp B_is_whole .nil pass0 (pa_cons (pe_ix (ix_seqK K) (pv 0) pe_int (fun _ _ => rfl)) pa_nil)))))))), ?_⟩
    cases hx with
    | @tup a xs ds ha hd =>
      match ds, hd with
      | [], .nil => walk_at "go"; exact k
      | [_], .cons _ .nil => walk_at "go"; exact k
      | [d1, d2], .cons h1 (.cons h2 .nil) =>
        walk_at "go"
        cases e1 : d1.isInt
        · walk_at "go"
          have e : Dt.isFrac (.tup [d1, d2]) = false := by simp [Dt.isFrac, e1]
          rw [e] at k
          exact k
        · walk_at "go"
          have e : Dt.isFrac (.tup [d1, d2]) = d2.isInt := by simp [Dt.isFrac, e1]
          rw [e] at k
          exact k
      | _ :: _ :: _ :: _, .cons _ (.cons _ (.cons _ r)) =>
        walk_at "go"
        exact k
    | _ => walk_at "go"; exact k
theorem ok_is_number (F : Fun K "is_number" "is_number" s_is_number f fd) (T : Blt mg) (hg : mg "gcd" = some (.builtin "math.gcd")) (D_is_whole : Df P w K mg base 1 "is_whole" f1 ["value"] spWhole) (D_is_fraction : Df P w K mg base 2 "is_fraction" f2 ["value"] spFrac) : FnOk P w K mg base CX0 3 f fd ["value"] spNum := by
  obtain ⟨_, G_is_whole, B_is_whole⟩ := D_is_whole.ok
  obtain ⟨_, G_is_fraction, B_is_fraction⟩ := D_is_fraction.ok
  refine F.ok sc_is_number (fun vs H Q E h => ?_) (fun cdv A outer s H vs Q E hr h => ?_)
  · obtain ⟨x, q, rfl, _⟩ := h
    rfl
  · obtain ⟨x, d, rfl, hx, k⟩ := h
    refine ⟨_, (pss_cons (ps_if (pt_val (pe_call G_is_whole (hr.mono (by decide)) (by rfl) D_is_whole.g D_is_whole.kp B_is_whole .nil pass0 (pa_cons (pv 0) pa_nil)))
      (pss_one (ps_ret pe_bl)) pss_nil)
      (pss_one (ps_ret (pe_and (pe_call G_is_fraction (hr.mono (by decide)) (by rfl) D_is_fraction.g D_is_fraction.kp B_is_fraction .nil pass0 (pa_cons (pv 0) pa_nil)) (pe_and (pe_cmpR op_gt (pe_ix (ix_seqK K) (pv 0) pe_int (fun _ _ => rfl)) pe_int (nomark _)) (pe_one (pe_cmpR op_eq (pe_callBfun cr_gcd (by rfl) hg (pa_cons (pe_ix (ix_seqK K) (pv 0) pe_int (fun _ _ => rfl)) (pa_cons (pe_ix (ix_seqK K) (pv 0) pe_int (fun _ _ => rfl)) pa_nil))) pe_int (nomark _)))))))), ?_⟩
    have hx' := hx
    cases hx with
    | int i => walk_at "go"; exact k
    | @tup a xs ds ha hd =>
      cases e : Dt.isFrac (.tup ds) with
      | false =>
        have e2 : Dt.isNum (.tup ds) = false := by
          unfold Dt.isFrac at e
          unfold Dt.isNum
          split <;> simp_all [Dt.isInt]
        rw [e2] at k
        walk_at "go"
        exact k
      | true =>
        obtain ⟨n, m, rfl⟩ : ∃ n m, ds = [.int n, .int m] := by
          unfold Dt.isFrac at e
          split at e
          · rename_i a b h
            cases h
            cases a <;> cases b <;> simp [Dt.isInt] at e
            exact ⟨_, _, rfl⟩
          · cases e
        match xs, hd with
        | [_, _], .cons (.int _) (.cons (.int _) .nil) =>
          by_cases c : 0 < m
          · walk_at "go"
            have e3 : Dt.isNum (.tup [.int n, .int m]) = decide (V.int (Int.gcd n m : Nat) = V.int 1) := by
              show (decide (0 < m) && decide (Int.gcd n m = 1)) = _
              rw [decide_eq_true c, Bool.true_and]
              by_cases z : Int.gcd n m = 1
              · rw [decide_eq_true z, z]
                rfl
              · rw [decide_eq_false z, decide_eq_false (fun y => z (by have := V.int.inj y; omega))]
            rw [e3] at k
            exact k
          · walk_at "go"
            have e3 : Dt.isNum (.tup [.int n, .int m]) = false := by
              show (decide (0 < m) && decide (Int.gcd n m = 1)) = _
              rw [decide_eq_false c, Bool.false_and]
            rw [e3] at k
            exact k
    | _ => walk_at "go"; exact k
theorem ok_reduced (F : Fun K "reduced" "reduced" s_reduced f fd) (T : Blt mg) (hg : mg "gcd" = some (.builtin "math.gcd")) : FnOk P w K mg base CX0 1 f fd ["n", "d"] spReduced := by
  refine F.ok sc_reduced (fun vs H Q E h => ?_) (fun cdv A outer s H vs Q E hr h => ?_)
  · obtain ⟨x, q, rfl, _⟩ := h
    rfl
  · obtain ⟨n, d, rfl, hd, sd, k⟩ := h
    refine ⟨_, (pss_cons (ps_if (pt_cmpR op_lt (pv 1) pe_int (nomark _))
      (pss_one (ps_par (i := 0) (j := 1) rfl sc_reduced.nd rfl rfl (by decide) rfl rfl (pa_cons (pe_un un_neg (pv 0)) (pa_cons (pe_un un_neg (pv 1)) pa_nil)) rfl)) pss_nil)
      (pss_cons (ps_set (i := 2) sc_reduced.nd rfl (.inl rfl) (pe_callBfun cr_gcd (by rfl) hg (pa_cons (pv 0) (pa_cons (pv 1) pa_nil))))
      (pss_cons (ps_if (pt_cmpR op_eq (pv 2) pe_int (nomark _))
      (pss_one (ps_ret (pe_tup (pa_cons (pv 0) (pa_cons (pv 1) pa_nil))))) pss_nil)
      (pss_one (ps_ret (pe_tup (pa_cons (pe_op op_fdivW (pv 0) (pv 2)) (pa_cons (pe_op op_fdivW (pv 1) (pv 2)) pa_nil)))))))), ?_⟩
    have sg : ∀ {m e : Int}, e.natAbs < 2 ^ 8900 → e ≠ 0 → CDivW m (Int.gcd n e : Nat) ∧ CDivW m (Int.gcd (-n) e : Nat) := fun he h0 =>
      ⟨wide_div (gcd_pos h0) (Nat.lt_of_le_of_lt (gcd_le h0) he) (by decide) (by decide), wide_div (gcd_pos h0) (Nat.lt_of_le_of_lt (gcd_le h0) he) (by decide) (by decide)⟩
    by_cases c : d < 0
    · have er : red n d = low (-n) (-d) := by
        unfold red
        rw [if_pos c]
      rw [er] at k
      by_cases z : Int.gcd (-n) (-d) = 1
      · have z' : V.int (Int.gcd (-n) (-d) : Nat) = V.int 1 := by rw [z]; rfl
        walk_at "go"
        refine k _ _ ?_ ?_
        · walk_at "hpS"
        · rw [low_one z]
          walk_at "hpH"
      · have z' : ¬ V.int (Int.gcd (-n) (-d) : Nat) = V.int 1 := fun y => z (by have := V.int.inj y; omega)
        walk_at "go"
        all_goals first
          | exact (sg (by rw [Int.natAbs_neg]; exact sd) (by omega)).2
          | skip
        refine k _ _ ?_ ?_
        · walk_at "hpS"
        · exact upd_same
    · have er : red n d = low n d := by
        unfold red
        rw [if_neg c]
      rw [er] at k
      by_cases z : Int.gcd n d = 1
      · have z' : V.int (Int.gcd n d : Nat) = V.int 1 := by rw [z]; rfl
        walk_at "go"
        refine k _ _ ?_ ?_
        · walk_at "hpS"
        · rw [low_one z]
          walk_at "hpH"
      · have z' : ¬ V.int (Int.gcd n d : Nat) = V.int 1 := fun y => z (by have := V.int.inj y; omega)
        walk_at "go"
        all_goals first
          | exact (sg sd hd).1
          | skip
        refine k _ _ ?_ ?_
        · walk_at "hpS"
        · exact upd_same
theorem ok_plus (F : Fun K "plus" "plus" s_plus f fd) (T : Blt mg) (D_pair : Df P w K mg base 1 "pair" f1 ["a"] spPair) (D_reduced : Df P w K mg base 1 "reduced" f2 ["n", "d"] spReduced) : FnOk P w K mg base CX0 2 f fd ["a", "b"] (spOp add) := by
  obtain ⟨_, G_pair, B_pair⟩ := D_pair.ok
  obtain ⟨_, G_reduced, B_reduced⟩ := D_reduced.ok
  refine F.ok sc_plus (fun vs H Q E h => ?_) (fun cdv A outer s H vs Q E hr h => ?_)
  · obtain ⟨x, y, p, q, rfl, _⟩ := h
    rfl
  · obtain ⟨x, y, p, q, rfl, hx, hy, lp, lq, ⟨sp1, sp2⟩, ⟨sq1, sq2⟩, k⟩ := h
    refine ⟨_, (pss_cons (ps_par (i := 0) (j := 1) rfl sc_plus.nd rfl rfl (by decide) rfl rfl (pa_cons (pe_call G_pair (hr.mono (by decide)) (by rfl) D_pair.g D_pair.kp B_pair .nil pass0 (pa_cons (pv 0) pa_nil)) (pa_cons (pe_call G_pair (hr.mono (by decide)) (by rfl) D_pair.g D_pair.kp B_pair .nil pass0 (pa_cons (pv 1) pa_nil)) pa_nil)) rfl)
      (pss_cons (ps_if (PW.pt (pw_and (pt_cmpR op_eq (pe_ix (ix_seqK K) (pv 0) pe_int (fun _ _ => rfl)) pe_int (nomark _)) (pw_and1 (pt_cmpR op_eq (pe_ix (ix_seqK K) (pv 1) pe_int (fun _ _ => rfl)) pe_int (nomark _)))))
      (pss_one (ps_ret (pe_tup (pa_cons (pe_op op_add (pe_ix (ix_seqK K) (pv 0) pe_int (fun _ _ => rfl)) (pe_ix (ix_seqK K) (pv 1) pe_int (fun _ _ => rfl))) (pa_cons pe_int pa_nil))))) pss_nil)
      (pss_one (ps_ret (pe_call G_reduced (hr.mono (by decide)) (by rfl) D_reduced.g D_reduced.kp B_reduced .nil pass0 (pa_cons (pe_op op_add (pe_op op_mulW (pe_ix (ix_seqK K) (pv 0) pe_int (fun _ _ => rfl)) (pe_ix (ix_seqK K) (pv 1) pe_int (fun _ _ => rfl))) (pe_op op_mulW (pe_ix (ix_seqK K) (pv 1) pe_int (fun _ _ => rfl)) (pe_ix (ix_seqK K) (pv 0) pe_int (fun _ _ => rfl)))) (pa_cons (pe_op op_mulW (pe_ix (ix_seqK K) (pv 0) pe_int (fun _ _ => rfl)) (pe_ix (ix_seqK K) (pv 1) pe_int (fun _ _ => rfl))) pa_nil))))))), ?_⟩
    by_cases c1 : p.2 = 1
    · by_cases c2 : q.2 = 1
      · have c1' : V.int p.2 = V.int 1 := by rw [c1]
        have c2' : V.int q.2 = V.int 1 := by rw [c2]
        walk_at "go"
        refine k _ _ ?_ ?_
        · walk_at "hpS"
        · have e : add p q = (p.1 + q.1, 1) := by
            obtain ⟨a, b⟩ := p
            obtain ⟨c, d⟩ := q
            cases c1
            cases c2
            exact add_int a c
          rw [e]
          walk_at "hpH"
      · have c1' : V.int p.2 = V.int 1 := by rw [c1]
        have c2' : ¬ V.int q.2 = V.int 1 := fun z => c2 (V.int.inj z)
        walk_at "go"
        all_goals first
          | exact sz_mul (by assumption) (by assumption)
          | exact Int.ne_of_gt (mul_pos' lp.1 lq.1)
          | exact sz_mulD (by assumption) (by assumption)
          | skip
        rename_i Hl sl hl
        refine k _ _ ?_ ?_
        · walk_at "hpS"
        · rw [red_pos (mul_pos' lp.1 lq.1)] at hl
          exact hl
    · have c1' : ¬ V.int p.2 = V.int 1 := fun z => c1 (V.int.inj z)
      walk_at "go"
      all_goals first
        | exact sz_mul (by assumption) (by assumption)
        | exact Int.ne_of_gt (mul_pos' lp.1 lq.1)
        | exact sz_mulD (by assumption) (by assumption)
        | skip
      rename_i Hl sl hl
      refine k _ _ ?_ ?_
      · walk_at "hpS"
      · rw [red_pos (mul_pos' lp.1 lq.1)] at hl
        exact hl
theorem ok_minus (F : Fun K "minus" "minus" s_minus f fd) (T : Blt mg) (D_pair : Df P w K mg base 1 "pair" f1 ["a"] spPair) (D_reduced : Df P w K mg base 1 "reduced" f2 ["n", "d"] spReduced) : FnOk P w K mg base CX0 2 f fd ["a", "b"] (spOp sub) := by
  obtain ⟨_, G_pair, B_pair⟩ := D_pair.ok
  obtain ⟨_, G_reduced, B_reduced⟩ := D_reduced.ok
  refine F.ok sc_minus (fun vs H Q E h => ?_) (fun cdv A outer s H vs Q E hr h => ?_)
  · obtain ⟨x, y, p, q, rfl, _⟩ := h
    rfl
  · obtain ⟨x, y, p, q, rfl, hx, hy, lp, lq, ⟨sp1, sp2⟩, ⟨sq1, sq2⟩, k⟩ := h
    refine ⟨_, (pss_cons (ps_par (i := 0) (j := 1) rfl sc_minus.nd rfl rfl (by decide) rfl rfl (pa_cons (pe_call G_pair (hr.mono (by decide)) (by rfl) D_pair.g D_pair.kp B_pair .nil pass0 (pa_cons (pv 0) pa_nil)) (pa_cons (pe_call G_pair (hr.mono (by decide)) (by rfl) D_pair.g D_pair.kp B_pair .nil pass0 (pa_cons (pv 1) pa_nil)) pa_nil)) rfl)
      (pss_cons (ps_if (PW.pt (pw_and (pt_cmpR op_eq (pe_ix (ix_seqK K) (pv 0) pe_int (fun _ _ => rfl)) pe_int (nomark _)) (pw_and1 (pt_cmpR op_eq (pe_ix (ix_seqK K) (pv 1) pe_int (fun _ _ => rfl)) pe_int (nomark _)))))
      (pss_one (ps_ret (pe_tup (pa_cons (pe_op op_sub (pe_ix (ix_seqK K) (pv 0) pe_int (fun _ _ => rfl)) (pe_ix (ix_seqK K) (pv 1) pe_int (fun _ _ => rfl))) (pa_cons pe_int pa_nil))))) pss_nil)
      (pss_one (ps_ret (pe_call G_reduced (hr.mono (by decide)) (by rfl) D_reduced.g D_reduced.kp B_reduced .nil pass0 (pa_cons (pe_op op_sub (pe_op op_mulW (pe_ix (ix_seqK K) (pv 0) pe_int (fun _ _ => rfl)) (pe_ix (ix_seqK K) (pv 1) pe_int (fun _ _ => rfl))) (pe_op op_mulW (pe_ix (ix_seqK K) (pv 1) pe_int (fun _ _ => rfl)) (pe_ix (ix_seqK K) (pv 0) pe_int (fun _ _ => rfl)))) (pa_cons (pe_op op_mulW (pe_ix (ix_seqK K) (pv 0) pe_int (fun _ _ => rfl)) (pe_ix (ix_seqK K) (pv 1) pe_int (fun _ _ => rfl))) pa_nil))))))), ?_⟩
    by_cases c1 : p.2 = 1
    · by_cases c2 : q.2 = 1
      · have c1' : V.int p.2 = V.int 1 := by rw [c1]
        have c2' : V.int q.2 = V.int 1 := by rw [c2]
        walk_at "go"
        refine k _ _ ?_ ?_
        · walk_at "hpS"
        · have e : sub p q = (p.1 - q.1, 1) := by
            obtain ⟨a, b⟩ := p
            obtain ⟨c, d⟩ := q
            cases c1
            cases c2
            exact sub_int a c
          rw [e]
          walk_at "hpH"
      · have c1' : V.int p.2 = V.int 1 := by rw [c1]
        have c2' : ¬ V.int q.2 = V.int 1 := fun z => c2 (V.int.inj z)
        walk_at "go"
        all_goals first
          | exact sz_mul (by assumption) (by assumption)
          | exact Int.ne_of_gt (mul_pos' lp.1 lq.1)
          | exact sz_mulD (by assumption) (by assumption)
          | skip
        rename_i Hl sl hl
        refine k _ _ ?_ ?_
        · walk_at "hpS"
        · rw [red_pos (mul_pos' lp.1 lq.1)] at hl
          exact hl
    · have c1' : ¬ V.int p.2 = V.int 1 := fun z => c1 (V.int.inj z)
      walk_at "go"
      all_goals first
        | exact sz_mul (by assumption) (by assumption)
        | exact Int.ne_of_gt (mul_pos' lp.1 lq.1)
        | exact sz_mulD (by assumption) (by assumption)
        | skip
      rename_i Hl sl hl
      refine k _ _ ?_ ?_
      · walk_at "hpS"
      · rw [red_pos (mul_pos' lp.1 lq.1)] at hl
        exact hl
theorem ok_times (F : Fun K "times" "times" s_times f fd) (T : Blt mg) (D_pair : Df P w K mg base 1 "pair" f1 ["a"] spPair) (D_reduced : Df P w K mg base 1 "reduced" f2 ["n", "d"] spReduced) : FnOk P w K mg base CX0 2 f fd ["a", "b"] (spOp mul) := by
  obtain ⟨_, G_pair, B_pair⟩ := D_pair.ok
  obtain ⟨_, G_reduced, B_reduced⟩ := D_reduced.ok
  refine F.ok sc_times (fun vs H Q E h => ?_) (fun cdv A outer s H vs Q E hr h => ?_)
  · obtain ⟨x, y, p, q, rfl, _⟩ := h
    rfl
  · obtain ⟨x, y, p, q, rfl, hx, hy, lp, lq, ⟨sp1, sp2⟩, ⟨sq1, sq2⟩, k⟩ := h
    refine ⟨_, (pss_cons (ps_par (i := 0) (j := 1) rfl sc_times.nd rfl rfl (by decide) rfl rfl (pa_cons (pe_call G_pair (hr.mono (by decide)) (by rfl) D_pair.g D_pair.kp B_pair .nil pass0 (pa_cons (pv 0) pa_nil)) (pa_cons (pe_call G_pair (hr.mono (by decide)) (by rfl) D_pair.g D_pair.kp B_pair .nil pass0 (pa_cons (pv 1) pa_nil)) pa_nil)) rfl)
      (pss_one (ps_ret (pe_call G_reduced (hr.mono (by decide)) (by rfl) D_reduced.g D_reduced.kp B_reduced .nil pass0 (pa_cons (pe_op op_mulW (pe_ix (ix_seqK K) (pv 0) pe_int (fun _ _ => rfl)) (pe_ix (ix_seqK K) (pv 1) pe_int (fun _ _ => rfl))) (pa_cons (pe_op op_mulW (pe_ix (ix_seqK K) (pv 0) pe_int (fun _ _ => rfl)) (pe_ix (ix_seqK K) (pv 1) pe_int (fun _ _ => rfl))) pa_nil)))))), ?_⟩
    walk_at "go"
    all_goals first
      | exact sz_mul (by assumption) (by assumption)
      | exact Int.ne_of_gt (mul_pos' lp.1 lq.1)
      | exact sz_mulD (by assumption) (by assumption)
      | skip
    rename_i Hl sl hl
    refine k _ _ ?_ ?_
    · walk_at "hpS"
    · rw [red_pos (mul_pos' lp.1 lq.1)] at hl
      exact hl
theorem ok_below (F : Fun K "below" "below" s_below f fd) (T : Blt mg) : FnOk P w K mg base CX0 1 f fd ["a", "b"] spBelow := by
  refine F.ok sc_below (fun vs H Q E h => ?_) (fun cdv A outer s H vs Q E hr h => ?_)
  · obtain ⟨x, y, p, q, rfl, _⟩ := h
    rfl
  · obtain ⟨x, y, p, q, rfl, ⟨a, rfl, ha⟩, ⟨b, rfl, hb⟩, ⟨sp1, sp2⟩, ⟨sq1, sq2⟩, k⟩ := h
    refine ⟨_, (pss_one (ps_ret (pe_cmpR op_lt (pe_op op_mulW (pe_ix (ix_seqK K) (pv 0) pe_int (fun _ _ => rfl)) (pe_ix (ix_seqK K) (pv 1) pe_int (fun _ _ => rfl))) (pe_op op_mulW (pe_ix (ix_seqK K) (pv 1) pe_int (fun _ _ => rfl)) (pe_ix (ix_seqK K) (pv 0) pe_int (fun _ _ => rfl))) (nomark _)))), ?_⟩
    walk_at "go"
    all_goals first
      | exact sz_mul (by assumption) (by assumption)
      | skip
    exact k
theorem ok_compare (F : Fun K "compare" "compare" s_compare f fd) (T : Blt mg) (D_pair : Df P w K mg base 1 "pair" f1 ["a"] spPair) (D_below : Df P w K mg base 1 "below" f2 ["a", "b"] spBelow) : FnOk P w K mg base CX0 2 f fd ["a", "b"] spCompare := by
  obtain ⟨_, G_pair, B_pair⟩ := D_pair.ok
  obtain ⟨_, G_below, B_below⟩ := D_below.ok
  refine F.ok sc_compare (fun vs H Q E h => ?_) (fun cdv A outer s H vs Q E hr h => ?_)
  · obtain ⟨x, y, p, q, rfl, _⟩ := h
    rfl
  · obtain ⟨x, y, p, q, rfl, hx, hy, sp, sq, k⟩ := h
    refine ⟨_, (pss_cons (ps_par (i := 0) (j := 1) rfl sc_compare.nd rfl rfl (by decide) rfl rfl (pa_cons (pe_call G_pair (hr.mono (by decide)) (by rfl) D_pair.g D_pair.kp B_pair .nil pass0 (pa_cons (pv 0) pa_nil)) (pa_cons (pe_call G_pair (hr.mono (by decide)) (by rfl) D_pair.g D_pair.kp B_pair .nil pass0 (pa_cons (pv 1) pa_nil)) pa_nil)) rfl)
      (pss_cons (ps_if (pt_val (pe_call G_below (hr.mono (by decide)) (by rfl) D_below.g D_below.kp B_below .nil pass0 (pa_cons (pv 0) (pa_cons (pv 1) pa_nil))))
      (pss_one (ps_ret (pe_un un_neg pe_int))) pss_nil)
      (pss_one (ps_ret (pe_ifExp (pt_val (pe_call G_below (hr.mono (by decide)) (by rfl) D_below.g D_below.kp B_below .nil pass0 (pa_cons (pv 1) (pa_cons (pv 0) pa_nil)))) pe_int pe_int))))), ?_⟩
    cases c1 : under p q with
    | true =>
      walk_at "go"
      have z := k _ (Same.trans (by assumption) (by assumption))
      rw [if_pos c1] at z
      exact z
    | false =>
      cases c2 : under q p with
      | true =>
        walk_at "go"
        have z := k _ (Same.trans (by assumption) (by assumption))
        rw [if_neg (by rw [c1]; decide), if_pos c2] at z
        exact z
      | false =>
        walk_at "go"
        have z := k _ (Same.trans (by assumption) (by assumption))
        rw [if_neg (by rw [c1]; decide), if_neg (by rw [c2]; decide)] at z
        exact z
end
end Ko


namespace Ko
open PySem L2 PySem.Spec PyProof.Rows Xm
def spDigits : Sp := fun vs H Q _ => ∃ x : Str, vs = [.str x] ∧ x.length ≤ 100000 ∧ ∀ H', Same H H' → Q (.bl (hasDig (TL.tl x))) H'
def spRead : Sp := fun vs H Q _ => ∃ x : Str, vs = [.str x] ∧ x.length ≤ 10000 ∧ (readL (TL.tl x) = none → ∀ H', Same H H' → Q .non H') ∧ ∀ q, readL (TL.tl x) = some q → Ret H Q q
section
variable {H : Hp} {Q : VK} {E : XK}
theorem sp_digits {x : Str} (k : ∀ H', Same H H' → Q (.bl (hasDig (TL.tl x))) H') (h : x.length ≤ 100000) : spDigits [.str x] H Q E := ⟨x, rfl, h, k⟩
end

local macro_rules | `(tactic| walk_at "hpS") => `(tactic| with_reducible first
  | exact Same.refl _
  | assumption
  | (refine' Same.trans ?hq (same_new (by assumption)); (case hq => walk_at "hpS"))
  | (refine' Same.trans ?hq (by assumption); (case hq => walk_at "hpS"))
  | fail)
local macro_rules | `(tactic| walk_at "hpH") => `(tactic| with_reducible first
  | assumption
  | exact upd_same
  | (refine' same_at (same_new (by assumption)) ?hq; (case hq => walk_at "hpH"))
  | (refine' same_at (by assumption) ?hq; (case hq => walk_at "hpH"))
  | fail)
local macro_rules | `(tactic| walk_at "hpTo") => `(tactic| with_reducible first
  | assumption
  | (refine' sq_t (same_new (by assumption)) ?hq; (case hq => walk_at "hpTo"))
  | (refine' sq_t (by assumption) ?hq; (case hq => walk_at "hpTo"))
  | fail)
local macro_rules | `(tactic| walk_at "hpT") => `(tactic| with_reducible first
  | (refine' SqT.of ?hq; (case hq => walk_at "hpH"))
  | walk_at "hpTo"
  | fail)
local macro_rules | `(tactic| walk_at "hpLo") => `(tactic| with_reducible first
  | assumption
  | (refine' sq_l (same_new (by assumption)) ?hq; (case hq => walk_at "hpLo"))
  | (refine' sq_l (by assumption) ?hq; (case hq => walk_at "hpLo"))
  | fail)
local macro_rules | `(tactic| walk_at "hpL") => `(tactic| with_reducible first
  | (refine' SqL.of ?hq; (case hq => walk_at "hpH"))
  | walk_at "hpLo"
  | fail)
local macro_rules | `(tactic| walk_at "kit") => `(tactic| with_reducible first
  | exact kit_int_bool | exact kit_int_int | exact kit_int_tuple | exact kit_int_list | exact kit_int_str
  | exact kit_tuple_tuple | exact kit_tuple_int | exact kit_tuple_bool | exact kit_tuple_list | exact kit_tuple_str
  | exact kit_bool_bool | exact kit_bool_int | exact kit_bool_tuple | exact kit_bool_list | exact kit_bool_str
  | exact kit_str_str | exact kit_str_int | exact kit_str_bool | exact kit_str_tuple | exact kit_str_list
  | exact kit_NoneType_int | exact kit_NoneType_bool | exact kit_NoneType_tuple | exact kit_NoneType_list | exact kit_NoneType_str
  | exact kit_list_list | exact kit_list_tuple | exact kit_list_int | exact kit_list_bool | exact kit_list_str
  | fail)
local macro_rules | `(tactic| walk_at "call") => `(tactic| fail)
local macro_rules | `(tactic| walk_at "s0") => `(tactic| with_reducible first
  | refine g_seq ?_ | refine g_asg ?_ | refine g_name ?_ | refine g_ifS ?_ | refine g_ret ?_ | refine g_retN ?_ | refine g_next ?_
  | refine g_par ?_ | refine g_parE ?_ | refine g_drop ?_
  | refine g_c ?_ | refine g_op ?_ | refine g_un ?_ | refine g_cb ?_ | refine g_call ?_ | refine g_nil ?_ | refine g_cons ?_ | refine g_tup ?_ | refine g_lst ?_
  | refine g_test ?_ | refine g_B ?_ | refine g_blF ?_ | refine g_and ?_ | refine g_or ?_ | refine g_not ?_ | refine g_andV ?_ | refine g_orV ?_ | refine g_notV ?_ | refine g_if ?_
  | refine iteT ?_ | refine iteF ?_
  | refine g_chain ?_ | refine g_sl ?_ | refine g_noPart ?_ | refine g_part ?_ | refine g_partI ?_ | refine g_slS ?_ ?side | refine g_M1 ?_ | refine g_M1s ?_ | refine g_starts ?_ | refine g_bm ?_ | refine g_bm0 ?_ | refine g_tyS ?_
  | refine g_Fs ?_ | refine g_JsN ?_ | refine g_JsC ?_ | refine g_JsE ?_ ?side | refine g_fmt ?_ | refine g_fmtI ?_ ?side | refine g_fmtS ?_ ?side | refine g_iList ?_ | refine g_iTup ?_ | refine g_iStr ?_ | refine g_iStrE ?_ | refine g_iRng1 ?_ | refine g_iRng1E ?_ ?side1 ?side2 | refine g_yes ?_ | refine g_ckw ?_ | refine g_dget ?_ | refine g_dictZip ?_ | refine g_gCons ?_ | refine g_gNil ?_ | refine g_revL ?_ | refine g_for ?_ | refine g_lc ?_ | refine g_addS ?_ ?side | refine g_str ?_ ?side | refine g_lenS ?_ ?side
  | refine g_rI0 ?_ | refine g_rI ?_ ?side | refine g_rU ?_ | refine g_abs ?_ | refine g_int ?_ | refine g_intB ?_ | refine g_gcd ?_ | refine g_inS ?_ | refine g_isN0 ?_ | refine g_notN0 ?_
  | fail)
local macro_rules | `(tactic| walk_at "s1") => `(tactic| first
  | ((with_reducible refine' g_var ?h ?_); (case h => exact rfl))
  | ((with_reducible refine' g_new ?h ?_); (case h => exact (by simp only [List.length_cons, List.length_nil]; decide)); intro tnew htnew)
  | ((with_reducible refine' iteDT ?h ?_); (case h => first | exact rfl | assumption))
  | ((with_reducible refine' iteNT ?h ?_); (case h => first | exact rfl | assumption))
  | ((with_reducible refine' iteDF ?h ?_); (case h => first | assumption | (intro z; cases z)))
  | ((with_reducible refine' iteNF ?h ?_); (case h => first | assumption | (intro z; cases z)))
  | ((with_reducible refine' g_eq ?_ ?h); (case h => exact rfl))
  | ((with_reducible refine' g_ne ?_ ?h); (case h => exact rfl))
  | ((with_reducible refine' g_ixT ?_ ?h ?e); (case h => walk_at "hpT"); (case e => first | exact rfl | exact atI_0 | exact atI_1))
  | ((with_reducible refine' g_ixL ?_ ?h ?e); (case h => walk_at "hpL"); (case e => first | exact rfl | exact atI_0 | exact atI_1))
  | ((with_reducible refine' g_isi_int ?_ ?h); (case h => walk_at "kit"))
  | ((with_reducible refine' g_isi_str ?_ ?h); (case h => walk_at "kit"))
  | ((with_reducible refine' g_isi_bl ?_ ?h); (case h => walk_at "kit"))
  | ((with_reducible refine' g_isi_non ?_ ?h); (case h => walk_at "kit"))
  | ((with_reducible refine' g_isi_t ?_ ?t ?h); (case t => walk_at "hpT"); (case h => walk_at "kit"))
  | ((with_reducible refine' g_isi_l ?_ ?t ?h ?l); (case l => walk_at "hpH"); (case t => walk_at "hpL"); (case h => walk_at "kit"))
  | ((with_reducible refine' g_lenT ?_ ?h); (case h => walk_at "hpT"))
  | ((with_reducible refine' g_lenL ?_ ?h); (case h => walk_at "hpL"))
  | ((with_reducible refine' g_split ?_ ?h ?side); (case h => exact rfl); intro pnew hpnew)
  | ((with_reducible refine' g_slL ?h ?_); (case h => walk_at "hpL"); intro pnew hpnew)
  | ((with_reducible refine' g_iListE ?_ ?h); (case h => walk_at "hpL"))
  | ((with_reducible refine' g_iTupE ?_ ?h); (case h => walk_at "hpT"))
  | ((with_reducible refine' g_tyL ?_ ?h); (case h => walk_at "hpL"))
  | ((with_reducible refine' g_join ?_ ?h ?side); (case h => walk_at "hpL"))
  | ((with_reducible refine' g_append ?_ ?h ?side); (case h => walk_at "hpH"))
  | ((with_reducible refine' g_all ?_ ?h); (case h => walk_at "hpL"))
  | ((with_reducible refine' g_gTup ?_ ?h ?n); (case h => walk_at "hpT"); (case n => exact rfl))
  | ((with_reducible refine' g_revLE ?h ?_); (case h => walk_at "hpL"); intro pnew hpnew)
  | ((with_reducible refine' g_isN1 ?_ ?h); (case h => first | assumption | (intro z; cases z)))
  | ((with_reducible refine' g_notN1 ?_ ?h); (case h => first | assumption | (intro z; cases z)))
  | walk_at "call"
  | ((with_reducible refine' iteBT ?h ?_); (case h => first | assumption | exact rfl))
  | ((with_reducible refine' iteBF ?h ?_); (case h => first | assumption | exact rfl))
  | fail)
local macro_rules | `(tactic| walk_at "nrm") => `(tactic| simp only [Bool.not_true, Bool.not_false, decide_eq_true_eq, decide_true, decide_false, Bool.true_and, Bool.false_and, Bool.and_true, Bool.and_false, V.int.injEq, V.bl.injEq, V.str.injEq, List.length_cons, List.length_nil, Bool.not_eq_true', decide_eq_false_iff_not, Int.not_lt, Int.not_le, reduceCtorEq, not_false_eq_true, not_true_eq_false, Decidable.not_not] at *)
local macro_rules | `(tactic| walk_at "sp") => `(tactic| ((with_reducible refine ite2 (fun c => ?_) (fun c => ?_)) <;> (try simp only [decide_eq_true_eq, Bool.not_eq_true', decide_eq_false_iff_not, V.int.injEq, V.bl.injEq, V.str.injEq, Int.not_lt, Int.not_le, reduceCtorEq, Decidable.not_not, Bool.false_eq_true, Bool.true_eq_false] at c) <;> (try (exfalso; omega))))
local macro_rules | `(tactic| walk_at "s") => `(tactic| first | walk_at "s0" | walk_at "s1" | fail)
local macro_rules | `(tactic| walk_at "go") => `(tactic| (try dsimp only [cxK, cxK']); repeat' walk_at "s")
local macro_rules | `(tactic| walk_at "gos") => `(tactic| ((try dsimp only [cxK, cxK']); repeat' (first | walk_at "s" | walk_at "sp" | fail)))

local macro_rules | `(tactic| walk_at "hpNo") => `(tactic| with_reducible first
  | assumption
  | (refine' Nm.ofPr ?hq; (case hq => assumption))
  | (refine' Nm.same (same_new (by assumption)) ?hq; (case hq => walk_at "hpNo"))
  | (refine' Nm.same (by assumption) ?hq; (case hq => walk_at "hpNo"))
  | fail)
local macro_rules | `(tactic| walk_at "hpN") => `(tactic| with_reducible first
  | walk_at "hpNo"
  | (refine' Nm.of ?hq; (case hq => walk_at "hpH"))
  | fail)
local macro_rules | `(tactic| walk_at "hpPo") => `(tactic| with_reducible first
  | assumption
  | (refine' Pr.same (same_new (by assumption)) ?hq; (case hq => walk_at "hpPo"))
  | (refine' Pr.same (by assumption) ?hq; (case hq => walk_at "hpPo"))
  | fail)
local macro_rules | `(tactic| walk_at "hpP") => `(tactic| with_reducible first
  | walk_at "hpPo"
  | (refine' Pr.of ?hq; (case hq => walk_at "hpH"))
  | fail)
local macro_rules | `(tactic| walk_at "hpDo") => `(tactic| with_reducible first
  | assumption
  | exact Dq.int _ | exact Dq.bl _ | exact Dq.str _ | exact Dq.non
  | (refine' Dq.same (same_new (by assumption)) ?hq; (case hq => walk_at "hpDo"))
  | (refine' Dq.same (by assumption) ?hq; (case hq => walk_at "hpDo"))
  | fail)
local macro_rules | `(tactic| walk_at "hpD") => `(tactic| with_reducible first
  | walk_at "hpDo"
  | fail)

local macro_rules | `(tactic| walk_at "call") => `(tactic| first
  | ((with_reducible refine' sp_digits ?_ ?side); intro Hd' sd')
  | fail)
section
variable {P : Program} {w : World} {K : Fg} {mg : Str → Option Value} {base : Heap} {f f1 f2 f3 : Addr} {fd : FuncData}
theorem ok_has_digits (F : Fun K "has_digits" "has_digits" s_has_digits f fd) (T : Blt mg) {t1 t2 : Tok} (c_MOST_DIGITS : mg "MOST_DIGITS" = some (.int 60 t1)) (c_DIGITS : mg "DIGITS" = some (.str "0123456789" t2)) : FnOk P w K mg base CX0 1 f fd ["text"] spDigits := by
  refine F.ok sc_has_digits (fun vs H Q E h => ?_) (fun cdv A outer s H vs Q E hr h => ?_)
  · obtain ⟨x, rfl, _⟩ := h
    rfl
  · obtain ⟨x, rfl, hx, k⟩ := h
    refine ⟨_, (pss_cons (ps_if (pt_not (pt_chain op_le op_le pe_int (pe_callB (cg_lenK K) (by rfl) T.n_len (by decide +kernel) (pa_cons (pv 0) pa_nil)) (pe_glob (v := .int 60) (by rfl) c_MOST_DIGITS ⟨_, rfl⟩)))
      (pss_one (ps_ret pe_bl)) pss_nil)
      (pss_cons (ps_if (PW.pt (pw_and (pt_cmpR op_eq (pe_ix (ix_seqK K) (pv 0) pe_int (fun _ _ => rfl)) pe_str (nomark _)) (pw_and1 (pt_cmpR op_gt (pe_callB (cg_lenK K) (by rfl) T.n_len (by decide +kernel) (pa_cons (pv 0) pa_nil)) pe_int (nomark _)))))
      (pss_one (ps_ret pe_bl)) pss_nil)
      (pss_one (ps_ret (pe_callB (cr_allK K rfl) (by rfl) T.n_all (by decide +kernel) (pa_cons (pe_lc (own := [("sign", 1)]) (g := gName 1) (tt := tYes) rfl sc_has_digits.nd (pi_str (pv 0)) (blkOk_by (N := ["text", "sign"]) (sc := defScope s_has_digits) (by decide +kernel)) (fun _ _ _ _ _ => pg_name (i := 1) sc_has_digits.nd rfl (.inl rfl)) (fun _ _ _ _ _ => pts_nil) (fun _ _ _ _ _ => (pe_cmpR op_inS (pv 1) (pe_glob (v := .str "0123456789") (by rfl) c_DIGITS ⟨_, rfl⟩) (by rfl)))) pa_nil)))))), ?_⟩
    have hl := TL.len_tl x
    have low : ∀ b, hasDig (TL.tl x) = b → ∀ H', Same H H' → Q (.bl b) H' := fun b e H' s => by
      rw [← e]
      exact k H' s
    walk_at "gos"
    · refine low false ?_ _ (Same.refl _)
      unfold hasDig
      rw [decide_eq_false (show ¬ (TL.tl x).length ≤ 60 by omega)]
      simp
    · have hne : TL.tl x ≠ [] := fun z => by
        have hl' := hl
        rw [z, List.length_nil] at hl'
        omega
      obtain ⟨c, r, htl⟩ := List.exists_cons_of_ne_nil hne
      have hc : V.str ⟨#[c]⟩ = V.str "0" ↔ c = 48 := by
        constructor
        · intro z
          have z2 := congrArg TL.tl (V.str.inj z)
          rw [tl_zero] at z2
          exact (List.cons.inj z2).1
        · rintro rfl
          exact congrArg V.str (TL.ext_tl (by rw [tl_zero]))
      refine g_ixS (c := c) ?_ (small_line hx) ((congrArg (fun l => atI l 0) (show x.cps.toList = c :: r from htl)).trans atI_0)
      by_cases z : c = 48
      · have z' := hc.mpr z
        by_cases l : 1 < x.length
        · have l' : (1 : Int) < (x.length : Int) := by omega
          walk_at "go"
          · refine low false ?_ _ (Same.refl _)
            unfold hasDig
            have : ((TL.tl x).head? == some 48 && decide (1 < (TL.tl x).length)) = true := by
              rw [Bool.and_eq_true, decide_eq_true_eq, ← hl, htl, z]
              exact ⟨by simp, l⟩
            rw [this]
            simp
          · exact small_line hx
        · have l' : ¬ (1 : Int) < (x.length : Int) := by omega
          walk_at "go"
          all_goals try exact small_line hx
          intro d hd
          refine lcV (walk_str (z := x)) hd (fun i => .bl (dig ((TL.tl x).getD i 0))) (by show x.length ≤ _; exact hx) (fun _ _ => trivial) (fun i y H2 H2' hi s y' Kt kt => ?_) (fun H' s hH => ?_) gm_name
          · obtain ⟨rfl, c', hc', rfl⟩ := y'
            refine g_wipe rfl ?_
            walk_at "go"
            rw [in_digits]
            have e : (TL.tl x).getD i 0 = c' := by
              show x.cps.toList.getD i 0 = c'
              rw [List.getD_eq_getElem?_getD, Array.getElem?_toList, hc']
              rfl
            have := kt _ (Same.refl _)
            rw [e] at this
            exact this
          · have el : (List.range x.cps.size).map (fun i => V.bl (dig ((TL.tl x).getD i 0))) = ((TL.tl x).map dig).map V.bl := by
              rw [List.map_map]
              have := range_map (fun c => V.bl (dig c)) (TL.tl x) (.bl (dig 0))
              rw [← hl] at this
              refine Eq.trans (List.map_congr_left fun i _ => ?_) this
              rw [List.getD_eq_getElem?_getD]
              cases (TL.tl x)[i]? <;> rfl
            rw [el] at hH
            walk_at "go"
            rw [List.all_map]
            refine low _ ?_ _ s
            unfold hasDig
            rw [decide_eq_true (show 1 ≤ (TL.tl x).length by omega), decide_eq_true (show (TL.tl x).length ≤ 60 by omega)]
            have : ((TL.tl x).head? == some 48 && decide (1 < (TL.tl x).length)) = false := by
              rw [Bool.and_eq_false_iff, decide_eq_false_iff_not, ← hl, htl]
              first
                | exact .inr l
                | exact .inl (by simpa using z)
            rw [this]
            rfl
      · have z' := mt hc.mp z
        walk_at "go"
        all_goals try exact small_line hx
        intro d hd
        refine lcV (walk_str (z := x)) hd (fun i => .bl (dig ((TL.tl x).getD i 0))) (by show x.length ≤ _; exact hx) (fun _ _ => trivial) (fun i y H2 H2' hi s y' Kt kt => ?_) (fun H' s hH => ?_) gm_name
        · obtain ⟨rfl, c', hc', rfl⟩ := y'
          refine g_wipe rfl ?_
          walk_at "go"
          rw [in_digits]
          have e : (TL.tl x).getD i 0 = c' := by
            show x.cps.toList.getD i 0 = c'
            rw [List.getD_eq_getElem?_getD, Array.getElem?_toList, hc']
            rfl
          have := kt _ (Same.refl _)
          rw [e] at this
          exact this
        · have el : (List.range x.cps.size).map (fun i => V.bl (dig ((TL.tl x).getD i 0))) = ((TL.tl x).map dig).map V.bl := by
            rw [List.map_map]
            have := range_map (fun c => V.bl (dig c)) (TL.tl x) (.bl (dig 0))
            rw [← hl] at this
            refine Eq.trans (List.map_congr_left fun i _ => ?_) this
            rw [List.getD_eq_getElem?_getD]
            cases (TL.tl x)[i]? <;> rfl
          rw [el] at hH
          walk_at "go"
          rw [List.all_map]
          refine low _ ?_ _ s
          unfold hasDig
          rw [decide_eq_true (show 1 ≤ (TL.tl x).length by omega), decide_eq_true (show (TL.tl x).length ≤ 60 by omega)]
          have : ((TL.tl x).head? == some 48 && decide (1 < (TL.tl x).length)) = false := by
            rw [Bool.and_eq_false_iff, decide_eq_false_iff_not, ← hl, htl]
            first
              | exact .inr l
              | exact .inl (by simpa using z)
          rw [this]
          rfl
    · refine low false ?_ _ (Same.refl _)
      unfold hasDig
      rw [decide_eq_false (show ¬ 1 ≤ (TL.tl x).length by omega)]
      simp
    · exact small_line hx
theorem ok_read_number (F : Fun K "read_number" "read_number" s_read_number f fd) (T : Blt mg) (hg : mg "gcd" = some (.builtin "math.gcd")) (D_has_digits : Df P w K mg base 1 "has_digits" f1 ["text"] spDigits) : FnOk P w K mg base CX0 2 f fd ["text"] spRead := by
  obtain ⟨_, G_has_digits, B_has_digits⟩ := D_has_digits.ok
  refine F.ok sc_read_number (fun vs H Q E h => ?_) (fun cdv A outer s H vs Q E hr h => ?_)
  · obtain ⟨x, rfl, _⟩ := h
    rfl
  · obtain ⟨x, rfl, hx, kn, ks⟩ := h
    refine ⟨_, (pss_cons (ps_set (i := 1) sc_read_number.nd rfl (.inl rfl) (pe_startsN (pv 0) pe_str))
      (pss_cons (ps_set (i := 2) sc_read_number.nd rfl (.inl rfl) (pe_ifExp (pt_val (pv 1)) (pe_splitN (pe_slice sl_str (pv 0) (po_some pe_int) po_none) pe_str) (pe_splitN (pv 0) pe_str)))
      (pss_cons (ps_if (PW.pt (pw_or (pt_cmpR op_gt (pe_callB (cg_lenK K) (by rfl) T.n_len (by decide +kernel) (pa_cons (pv 2) pa_nil)) pe_int (nomark _)) (pw_or1 (pt_not (pt_val (pe_callB (cr_allK K rfl) (by rfl) T.n_all (by decide +kernel) (pa_cons (pe_lc (own := [("word", 3)]) (g := gName 3) (tt := tYes) rfl sc_read_number.nd (pi_list (pv 2)) (blkOk_by (N := ["text", "negative", "words", "word", "n", "d"]) (sc := defScope s_read_number) (by decide +kernel)) (fun _ _ _ _ _ => pg_name (i := 3) sc_read_number.nd rfl (.inl rfl)) (fun _ _ _ _ _ => pts_nil) (fun _ _ _ _ _ => (pe_call G_has_digits (hr.mono (by decide)) (by rfl) D_has_digits.g D_has_digits.kp B_has_digits .nil pass0 (pa_cons (pv 3) pa_nil)))) pa_nil)))))))
      (pss_one (ps_ret pe_non)) pss_nil)
      (pss_cons (ps_set (i := 4) sc_read_number.nd rfl (.inl rfl) (pe_callTy cg_intS (by rfl) T.n_int (by decide +kernel) (pa_cons (pe_ix (ix_seqK K) (pv 2) pe_int (fun _ _ => rfl)) pa_nil)))
      (pss_cons (ps_set (i := 5) sc_read_number.nd rfl (.inl rfl) (pe_ifExp (pt_cmpR op_eq (pe_callB (cg_lenK K) (by rfl) T.n_len (by decide +kernel) (pa_cons (pv 2) pa_nil)) pe_int (nomark _)) (pe_callTy cg_intS (by rfl) T.n_int (by decide +kernel) (pa_cons (pe_ix (ix_seqK K) (pv 2) pe_int (fun _ _ => rfl)) pa_nil)) pe_int))
      (pss_cons (ps_if (PW.pt (pw_and (pt_val (pv 1)) (pw_and1 (pt_cmpR op_eq (pv 4) pe_int (nomark _)))))
      (pss_one (ps_ret pe_non)) pss_nil)
      (pss_cons (ps_if (PW.pt (pw_and (pt_cmpR op_eq (pe_callB (cg_lenK K) (by rfl) T.n_len (by decide +kernel) (pa_cons (pv 2) pa_nil)) pe_int (nomark _)) (pw_and1 (PW.pt (pw_or (pt_cmpR op_lt (pv 5) pe_int (nomark _)) (pw_or1 (pt_cmpR op_gt (pe_callBfun cr_gcd (by rfl) hg (pa_cons (pv 4) (pa_cons (pv 5) pa_nil))) pe_int (nomark _))))))))
      (pss_one (ps_ret pe_non)) pss_nil)
      (pss_one (ps_ret (pe_ifExp (pt_val (pv 1)) (pe_tup (pa_cons (pe_un un_neg (pv 4)) (pa_cons (pv 5) pa_nil))) (pe_tup (pa_cons (pv 4) (pa_cons (pv 5) pa_nil))))))))))))), ?_⟩
    walk_at "go"
    rw [starts_dash]
    cases hd : decide ((TL.tl x).head? = some 45) with
    | true =>
      have er : readL (TL.tl x) = readW true ((Txt.split (cutS x (some 1) none) "/").map TL.tl) := by
        unfold readL
        rw [if_pos (of_decide_eq_true hd), split_ws, cut_one]
      have hy : (cutS x (some 1) none).length ≤ 10000 := Nat.le_trans (cutS_length _ _ _) hx
      have hne := split_ne (cutS x (some 1) none)
      have hlen : ∀ w ∈ Txt.split (cutS x (some 1) none) "/", w.length ≤ 10000 := fun w h => Nat.le_trans (split_len h) hy
      walk_at "go"
      all_goals try exact Nat.le_trans (Nat.add_le_add_right hy 2) (small_line (by decide))
      all_goals try exact small_line (Nat.le_trans hx (by decide))
      generalize Txt.split (cutS x (some 1) none) "/" = ws at *
      match ws, hne with
      | w1 :: w2 :: w3 :: r, _ =>
        have h2 : (2 : Int) < (((w1 :: w2 :: w3 :: r : List Str).map V.str).length : Int) := by
          simp only [List.length_map, List.length_cons]
          omega
        walk_at "go"
        exact kn er _ (by walk_at "hpS")
      | [w], _ =>
        walk_at "go"
        intro d hd'
        refine lcV (walk_list (K := K)) hd' (fun i => (([w][i]?).map fun w => V.bl (hasDig (TL.tl w))).getD .non) (by simp) (fun _ s => SqL.of (s _ _ upd_same)) (fun i y H2 H2' hi s y' Kt kt => ?_) (fun H' s hH => ?_) gm_name
        · obtain ⟨rfl, hy'⟩ := y'
          have hy2 : (([w] : List Str).map V.str)[i]? = some y := hy'
          rw [List.getElem?_map] at hy2
          cases hw : ([w] : List Str)[i]? with
          | none => rw [hw] at hy2; cases hy2
          | some w' =>
            rw [hw] at hy2
            cases hy2
            refine g_wipe rfl ?_
            walk_at "go"
            all_goals first
              | exact Nat.le_trans (hlen w' (List.mem_of_getElem? hw)) (by decide)
              | skip
            have z := kt _ (by assumption)
            rw [hw] at z
            exact z
        rw [show (([w] : List Str).map V.str).length = ([w] : List Str).length from List.length_map .., range_map (fun w => V.bl (hasDig (TL.tl w)))] at hH
        rw [show ([w] : List Str).map (fun w => V.bl (hasDig (TL.tl w))) = (([w] : List Str).map fun w => hasDig (TL.tl w)).map V.bl from by rw [List.map_map]; rfl] at hH
        walk_at "go"
        rw [show (([w] : List Str).map fun w => hasDig (TL.tl w)).all id = hasDig (TL.tl w) from by simp]
        have er' : readL (TL.tl x) = readW true [TL.tl w] := er
        cases e1 : hasDig (TL.tl w) with
        | false =>
          walk_at "go"
          exact kn (er'.trans (by simp [readW, e1])) _ (by walk_at "hpS")
        | true =>
          walk_at "go"
          refine g_intS ?_ (hasDig_int e1) (Nat.le_trans (hasDig_len e1) (by decide))
          by_cases hz : val (TL.tl w) = 0
          · have hz' : V.int ((val (TL.tl w) : Nat) : Int) = V.int 0 := by rw [hz]; rfl
            walk_at "go"
            exact kn (er'.trans (by simp [readW, e1, hz])) _ (by walk_at "hpS")
          · have hz' : ¬ V.int ((val (TL.tl w) : Nat) : Int) = V.int 0 := fun y => hz (by have := V.int.inj y; omega)
            walk_at "go"
            refine ks (sgn true (val (TL.tl w)), 1) (er'.trans (by simp [readW, e1, hz])) _ _ ?_ ?_
            · walk_at "hpS"
            · exact upd_same
      | [w, z], _ =>
        walk_at "go"
        intro d hd'
        refine lcV (walk_list (K := K)) hd' (fun i => (([w, z][i]?).map fun w => V.bl (hasDig (TL.tl w))).getD .non) (by simp) (fun _ s => SqL.of (s _ _ upd_same)) (fun i y H2 H2' hi s y' Kt kt => ?_) (fun H' s hH => ?_) gm_name
        · obtain ⟨rfl, hy'⟩ := y'
          have hy2 : (([w, z] : List Str).map V.str)[i]? = some y := hy'
          rw [List.getElem?_map] at hy2
          cases hw : ([w, z] : List Str)[i]? with
          | none => rw [hw] at hy2; cases hy2
          | some w' =>
            rw [hw] at hy2
            cases hy2
            refine g_wipe rfl ?_
            walk_at "go"
            all_goals first
              | exact Nat.le_trans (hlen w' (List.mem_of_getElem? hw)) (by decide)
              | skip
            have z := kt _ (by assumption)
            rw [hw] at z
            exact z
        rw [show (([w, z] : List Str).map V.str).length = ([w, z] : List Str).length from List.length_map .., range_map (fun w => V.bl (hasDig (TL.tl w)))] at hH
        rw [show ([w, z] : List Str).map (fun w => V.bl (hasDig (TL.tl w))) = (([w, z] : List Str).map fun w => hasDig (TL.tl w)).map V.bl from by rw [List.map_map]; rfl] at hH
        walk_at "go"
        rw [show (([w, z] : List Str).map fun w => hasDig (TL.tl w)).all id = (hasDig (TL.tl w) && hasDig (TL.tl z)) from by simp]
        have er' : readL (TL.tl x) = readW true [TL.tl w, TL.tl z] := er
        cases e0 : hasDig (TL.tl w) && hasDig (TL.tl z) with
        | false =>
          walk_at "go"
          exact kn (er'.trans (by simp only [readW, e0]; rfl)) _ (by walk_at "hpS")
        | true =>
          obtain ⟨e1, e2⟩ := Bool.and_eq_true_iff.mp e0
          walk_at "go"
          refine g_intS ?_ (hasDig_int e1) (Nat.le_trans (hasDig_len e1) (by decide))
          walk_at "go"
          refine g_intS ?_ (hasDig_int e2) (Nat.le_trans (hasDig_len e2) (by decide))
          by_cases hz : val (TL.tl w) = 0
          · have hz' : V.int ((val (TL.tl w) : Nat) : Int) = V.int 0 := by rw [hz]; rfl
            walk_at "go"
            exact kn (er'.trans (by simp [readW, e1, e2, hz])) _ (by walk_at "hpS")
          have hz' : ¬ V.int ((val (TL.tl w) : Nat) : Int) = V.int 0 := fun y => hz (by have := V.int.inj y; omega)
          by_cases h2 : val (TL.tl z) < 2
          · have h2' : ((val (TL.tl z) : Nat) : Int) < 2 := by omega
            walk_at "go"
            exact kn (er'.trans (by simp [readW, e1, e2, hz, h2])) _ (by walk_at "hpS")
          have h2' : ¬ ((val (TL.tl z) : Nat) : Int) < 2 := by omega
          by_cases h3 : 1 < Nat.gcd (val (TL.tl w)) (val (TL.tl z))
          · have h3' : (1 : Int) < ((Int.gcd (val (TL.tl w) : Nat) (val (TL.tl z) : Nat) : Nat) : Int) := by
              rw [Int.gcd_natCast_natCast]
              omega
            walk_at "go"
            exact kn (er'.trans (by simp [readW, e1, e2, hz, h3])) _ (by walk_at "hpS")
          · have h3' : ¬ (1 : Int) < ((Int.gcd (val (TL.tl w) : Nat) (val (TL.tl z) : Nat) : Nat) : Int) := by
              rw [Int.gcd_natCast_natCast]
              omega
            walk_at "go"
            refine ks (sgn true (val (TL.tl w)), (val (TL.tl z) : Nat)) (er'.trans (by simp [readW, e1, e2, hz, h2, h3])) _ _ ?_ ?_
            · walk_at "hpS"
            · exact upd_same

    | false =>
      have er : readL (TL.tl x) = readW false ((Txt.split x "/").map TL.tl) := by
        unfold readL
        rw [if_neg (of_decide_eq_false hd), split_ws]
      have hy := hx
      have hne := split_ne x
      have hlen : ∀ w ∈ Txt.split x "/", w.length ≤ 10000 := fun w h => Nat.le_trans (split_len h) hy
      walk_at "go"
      all_goals try exact Nat.le_trans (Nat.add_le_add_right hy 2) (small_line (by decide))
      all_goals try exact small_line (Nat.le_trans hx (by decide))
      generalize Txt.split x "/" = ws at *
      match ws, hne with
      | w1 :: w2 :: w3 :: r, _ =>
        have h2 : (2 : Int) < (((w1 :: w2 :: w3 :: r : List Str).map V.str).length : Int) := by
          simp only [List.length_map, List.length_cons]
          omega
        walk_at "go"
        exact kn er _ (by walk_at "hpS")
      | [w], _ =>
        walk_at "go"
        intro d hd'
        refine lcV (walk_list (K := K)) hd' (fun i => (([w][i]?).map fun w => V.bl (hasDig (TL.tl w))).getD .non) (by simp) (fun _ s => SqL.of (s _ _ upd_same)) (fun i y H2 H2' hi s y' Kt kt => ?_) (fun H' s hH => ?_) gm_name
        · obtain ⟨rfl, hy'⟩ := y'
          have hy2 : (([w] : List Str).map V.str)[i]? = some y := hy'
          rw [List.getElem?_map] at hy2
          cases hw : ([w] : List Str)[i]? with
          | none => rw [hw] at hy2; cases hy2
          | some w' =>
            rw [hw] at hy2
            cases hy2
            refine g_wipe rfl ?_
            walk_at "go"
            all_goals first
              | exact Nat.le_trans (hlen w' (List.mem_of_getElem? hw)) (by decide)
              | skip
            have z := kt _ (by assumption)
            rw [hw] at z
            exact z
        rw [show (([w] : List Str).map V.str).length = ([w] : List Str).length from List.length_map .., range_map (fun w => V.bl (hasDig (TL.tl w)))] at hH
        rw [show ([w] : List Str).map (fun w => V.bl (hasDig (TL.tl w))) = (([w] : List Str).map fun w => hasDig (TL.tl w)).map V.bl from by rw [List.map_map]; rfl] at hH
        walk_at "go"
        rw [show (([w] : List Str).map fun w => hasDig (TL.tl w)).all id = hasDig (TL.tl w) from by simp]
        have er' : readL (TL.tl x) = readW false [TL.tl w] := er
        cases e1 : hasDig (TL.tl w) with
        | false =>
          walk_at "go"
          exact kn (er'.trans (by simp [readW, e1])) _ (by walk_at "hpS")
        | true =>
          walk_at "go"
          refine g_intS ?_ (hasDig_int e1) (Nat.le_trans (hasDig_len e1) (by decide))
          walk_at "go"
          refine ks (sgn false (val (TL.tl w)), 1) (er'.trans (by simp [readW, e1])) _ _ ?_ ?_
          · walk_at "hpS"
          · exact upd_same
      | [w, z], _ =>
        walk_at "go"
        intro d hd'
        refine lcV (walk_list (K := K)) hd' (fun i => (([w, z][i]?).map fun w => V.bl (hasDig (TL.tl w))).getD .non) (by simp) (fun _ s => SqL.of (s _ _ upd_same)) (fun i y H2 H2' hi s y' Kt kt => ?_) (fun H' s hH => ?_) gm_name
        · obtain ⟨rfl, hy'⟩ := y'
          have hy2 : (([w, z] : List Str).map V.str)[i]? = some y := hy'
          rw [List.getElem?_map] at hy2
          cases hw : ([w, z] : List Str)[i]? with
          | none => rw [hw] at hy2; cases hy2
          | some w' =>
            rw [hw] at hy2
            cases hy2
            refine g_wipe rfl ?_
            walk_at "go"
            all_goals first
              | exact Nat.le_trans (hlen w' (List.mem_of_getElem? hw)) (by decide)
              | skip
            have z := kt _ (by assumption)
            rw [hw] at z
            exact z
        rw [show (([w, z] : List Str).map V.str).length = ([w, z] : List Str).length from List.length_map .., range_map (fun w => V.bl (hasDig (TL.tl w)))] at hH
        rw [show ([w, z] : List Str).map (fun w => V.bl (hasDig (TL.tl w))) = (([w, z] : List Str).map fun w => hasDig (TL.tl w)).map V.bl from by rw [List.map_map]; rfl] at hH
        walk_at "go"
        rw [show (([w, z] : List Str).map fun w => hasDig (TL.tl w)).all id = (hasDig (TL.tl w) && hasDig (TL.tl z)) from by simp]
        have er' : readL (TL.tl x) = readW false [TL.tl w, TL.tl z] := er
        cases e0 : hasDig (TL.tl w) && hasDig (TL.tl z) with
        | false =>
          walk_at "go"
          exact kn (er'.trans (by simp only [readW, e0]; rfl)) _ (by walk_at "hpS")
        | true =>
          obtain ⟨e1, e2⟩ := Bool.and_eq_true_iff.mp e0
          walk_at "go"
          refine g_intS ?_ (hasDig_int e1) (Nat.le_trans (hasDig_len e1) (by decide))
          walk_at "go"
          refine g_intS ?_ (hasDig_int e2) (Nat.le_trans (hasDig_len e2) (by decide))
          by_cases h2 : val (TL.tl z) < 2
          · have h2' : ((val (TL.tl z) : Nat) : Int) < 2 := by omega
            walk_at "go"
            exact kn (er'.trans (by simp [readW, e1, e2, h2])) _ (by walk_at "hpS")
          have h2' : ¬ ((val (TL.tl z) : Nat) : Int) < 2 := by omega
          by_cases h3 : 1 < Nat.gcd (val (TL.tl w)) (val (TL.tl z))
          · have h3' : (1 : Int) < ((Int.gcd (val (TL.tl w) : Nat) (val (TL.tl z) : Nat) : Nat) : Int) := by
              rw [Int.gcd_natCast_natCast]
              omega
            walk_at "go"
            exact kn (er'.trans (by simp [readW, e1, e2, h3])) _ (by walk_at "hpS")
          · have h3' : ¬ (1 : Int) < ((Int.gcd (val (TL.tl w) : Nat) (val (TL.tl z) : Nat) : Nat) : Int) := by
              rw [Int.gcd_natCast_natCast]
              omega
            walk_at "go"
            refine ks (sgn false (val (TL.tl w)), (val (TL.tl z) : Nat)) (er'.trans (by simp [readW, e1, e2, h2, h3])) _ _ ?_ ?_
            · walk_at "hpS"
            · exact upd_same

end
end Ko


namespace Ko
open PySem L2 PySem.Spec PyProof.Rows Xm
/-- good numbers -/
def Gd (q : Pq) : Prop := Lo q ∧ Sz 4400 q
def Gds (qs : List Pq) : Prop := ∀ q ∈ qs, Gd q
def spBest (K : Fg) (f : List Pq → Pq → Pq) : Sp := fun vs H Q _ => ∃ a xs q qs, vs = [.ref a] ∧ SqL K H a xs ∧ Paired (Nm H) xs (q :: qs) ∧ Gds (q :: qs) ∧ Ret H Q (f (q :: qs) q)
theorem paired_at {α β : Type} {F : α → β → Prop} : ∀ {l : List α} {k : List β} {i : Nat} {x : α}, Paired F l k → l[i]? = some x → ∃ y, k[i]? = some y ∧ F x y
  | _, _, _, _, .nil, h => by simp at h
  | _, _, 0, _, .cons q r, h => by
    simp only [List.getElem?_cons_zero] at h ⊢
    cases h
    exact ⟨_, rfl, q⟩
  | _, _, i + 1, _, .cons q r, h => by
    simp only [List.getElem?_cons_succ] at h ⊢
    exact paired_at r h
theorem paired_same {H H' : Hp} {xs : List V} {qs : List Pq} (s : Same H H') (h : Paired (Nm H) xs qs) : Paired (Nm H') xs qs := paired_mono (fun _ _ z => z.same s) h
theorem lst_take {q : Pq} {qs : List Pq} {b : Pq} {i : Nat} (h : qs[i]? = some q) : lst (qs.take (i + 1)) b = if under q (lst (qs.take i) b) = true then q else lst (qs.take i) b := by
  rw [List.take_add_one, h]
  show (qs.take i ++ [q]).foldl _ b = _
  rw [List.foldl_append]
  rfl
theorem grt_take {q : Pq} {qs : List Pq} {b : Pq} {i : Nat} (h : qs[i]? = some q) : grt (qs.take (i + 1)) b = if under (grt (qs.take i) b) q = true then q else grt (qs.take i) b := by
  rw [List.take_add_one, h]
  show (qs.take i ++ [q]).foldl _ b = _
  rw [List.foldl_append]
  rfl
theorem lst_gd {b : Pq} : ∀ {qs : List Pq}, Gds qs → Gd b → Gd (lst qs b)
  | [], _, h => h
  | q :: qs, hq, h => by
    show Gd (lst qs (if under q b = true then q else b))
    refine lst_gd (fun x hx => hq x (.tail _ hx)) ?_
    split
    · exact hq q (.head _)
    · exact h
theorem grt_gd {b : Pq} : ∀ {qs : List Pq}, Gds qs → Gd b → Gd (grt qs b)
  | [], _, h => h
  | q :: qs, hq, h => by
    show Gd (grt qs (if under b q = true then q else b))
    refine grt_gd (fun x hx => hq x (.tail _ hx)) ?_
    split
    · exact hq q (.head _)
    · exact h
theorem Gds.take {qs : List Pq} (h : Gds qs) (i : Nat) : Gds (qs.take i) := fun q hq => h q (List.mem_of_mem_take hq)
/-- the keys of good numbers -/
def most (qs : List Pq) : Int := qs.foldl (fun m q => if m < q.2 then q.2 else m) 1
def keysOf (m : Int) (qs : List Pq) : List Int := qs.map (key m)
/-- some bound of the denominators, not above 2 ^ 4400 -/
def spKeys (K : Fg) : Sp := fun vs H Q _ => ∃ a xs qs, vs = [.ref a] ∧ SqL K H a xs ∧ Paired (Pr H) xs qs ∧ Gds qs ∧ xs.length ≤ 100000 ∧
  ∀ (m : Int) (D : Addr) (H' : Hp), 1 ≤ m → (∀ q ∈ qs, q.2 ≤ m) → Same H H' → H' D = some (.lst ((keysOf m qs).map V.int)) → Q (.ref D) H'
def spOrder (K : Fg) (tup : Bool) : Sp := fun vs H Q _ => ∃ a xs qs, vs = [.ref a] ∧ (if tup = true then SqT K H a xs else SqL K H a xs) ∧ Paired (Nm H) xs qs ∧ Gds qs ∧ xs.length ≤ 60 ∧
  ∀ (D : Addr) (H' : Hp) (ys : List V), Same H H' → H D = none → H' D = some (.lst ys) → Paired (Pr H') ys (ord qs) → Q (.ref D) H'
section
variable {K : Fg} {H : Hp} {Q : VK} {E : XK}
theorem sp_keys {a : Addr} {xs : List V} {qs : List Pq} (h : SqL K H a xs) (hp : Paired (Pr H) xs qs) (hg : Gds qs) (hl : xs.length ≤ 100000)
  (k : ∀ (m : Int) (D : Addr) (H' : Hp), 1 ≤ m → (∀ q ∈ qs, q.2 ≤ m) → Same H H' → H' D = some (.lst ((keysOf m qs).map V.int)) → Q (.ref D) H') : spKeys K [.ref a] H Q E := ⟨a, xs, qs, rfl, h, hp, hg, hl, k⟩
end
theorem g_maxD {K : Fg} {H : Hp} {Q : VK} {a : Addr} {ns : List Int} (h : SqL K H a (ns.map V.int)) (q : ∀ m, (m = 1 ∨ m ∈ ns) → (∀ y ∈ ns, y ≤ m) → Q (.int m) H) : rMaxD K [.ref a] [.int 1] H Q :=
  ⟨a, ns, .int 1, rfl, rfl, h, fun e => q 1 (.inl rfl) (by simp [e]), fun _ m hm hle => q m (.inr hm) hle⟩
theorem paired_val {H : Hp} {xs : List V} {qs : List Pq} (h : Paired (Pr H) xs qs) {k : Nat} {x : V} (e : xs[k]? = some x) : ∃ q a, qs[k]? = some q ∧ x = .ref a ∧ H a = some (.tup [.int q.1, .int q.2]) := by
  obtain ⟨q, hq, a, rfl, ha⟩ := paired_at h e
  exact ⟨q, a, hq, rfl, ha⟩
theorem pick {α β : Type} : ∀ {ys : List α} {G : Nat → α → β → Prop}, (∀ k v, ys[k]? = some v → ∃ q, G k v q) → ∃ R : List β, R.length = ys.length ∧ ∀ (k : Nat) v q, ys[k]? = some v → R[k]? = some q → G k v q
  | [], _, _ => ⟨[], rfl, fun k v q h _ => by simp at h⟩
  | y :: ys, G, h => by
    obtain ⟨q, hq⟩ := h 0 y rfl
    obtain ⟨R, hl, hR⟩ := pick (ys := ys) (G := fun k => G (k + 1)) fun k v e => h (k + 1) v e
    refine ⟨q :: R, by rw [List.length_cons, List.length_cons, hl], fun k v q' h1 h2 => ?_⟩
    cases k with
    | zero =>
      simp only [List.getElem?_cons_zero] at h1 h2
      cases h1
      cases h2
      exact hq
    | succ k =>
      simp only [List.getElem?_cons_succ] at h1 h2
      exact hR k v q' h1 h2
theorem paired_of {α β : Type} {F : α → β → Prop} : ∀ {l : List α} {k : List β}, k.length = l.length → (∀ (i : Nat) x y, l[i]? = some x → k[i]? = some y → F x y) → Paired F l k
  | [], [], _, _ => .nil
  | x :: l, y :: k, h, f => .cons (f 0 x y rfl rfl) (paired_of (by simpa using h) fun i a b e1 e2 => f (i + 1) a b e1 e2)
/-- what stands in the order of its keys is in order -/
theorem by_keys {m : Int} {qs R : List Pq} {ns : List Int} (hg : ∀ q ∈ qs, Lo q) (hm : ∀ q ∈ qs, q.2 ≤ m) (hs : ns.Pairwise (· < ·)) (hk : ∀ k, k ∈ ns ↔ k ∈ keysOf m qs) (hl : R.length = ns.length)
    (hR : ∀ (k : Nat) q n, R[k]? = some q → ns[k]? = some n → q ∈ qs ∧ key m q = n) : R = ord qs := by
  have inq : ∀ q ∈ R, q ∈ qs := fun q hq => by
    obtain ⟨k, hk'⟩ := List.mem_iff_getElem?.mp hq
    have lt : k < R.length := (List.getElem?_eq_some_iff.mp hk').1
    exact (hR k q _ hk' (List.getElem?_eq_getElem (by omega))).1
  refine ord_of hg (List.pairwise_iff_getElem.mpr fun i j hi hj hij => ?_) fun x => ⟨inq x, fun hx => ?_⟩
  · obtain ⟨a1, a2⟩ := hR i _ _ (List.getElem?_eq_getElem hi) (List.getElem?_eq_getElem (by omega))
    obtain ⟨b1, b2⟩ := hR j _ _ (List.getElem?_eq_getElem hj) (List.getElem?_eq_getElem (by omega))
    have := (List.pairwise_iff_getElem.mp hs) i j (by omega) (by omega) hij
    refine key_mono (hg _ a1) (hg _ b1) (hm _ a1) (hm _ b1) ?_
    rw [a2, b2]
    exact this
  · have h1 : key m x ∈ ns := (hk _).mpr (List.mem_map_of_mem hx)
    obtain ⟨k, hk'⟩ := List.mem_iff_getElem?.mp h1
    have lt : k < ns.length := (List.getElem?_eq_some_iff.mp hk').1
    have e := List.getElem?_eq_getElem (l := R) (i := k) (by omega)
    obtain ⟨a1, a2⟩ := hR k _ _ e hk'
    have := key_inj (hg _ a1) (hg _ hx) (hm _ a1) (hm _ hx) a2
    rw [← this]
    exact List.getElem_mem ..
theorem map_at {α : Type} {f : Nat → V} {g : α → V} {l : List α} (h : ∀ (k : Nat) (q : α), l[k]? = some q → f k = g q) : (List.range l.length).map f = l.map g := by
  refine List.ext_getElem? fun k => ?_
  rw [List.getElem?_map, List.getElem?_map]
  rcases Nat.lt_or_ge k l.length with c | c
  · rw [List.getElem?_range c, Option.map_some, List.getElem?_eq_getElem c, Option.map_some, h k _ (List.getElem?_eq_getElem c)]
  · rw [List.getElem?_eq_none (by simpa using c), List.getElem?_eq_none c]
    rfl

local macro_rules | `(tactic| walk_at "hpS") => `(tactic| with_reducible first
  | exact Same.refl _
  | assumption
  | (refine' Same.trans ?hq (same_new (by assumption)); (case hq => walk_at "hpS"))
  | (refine' Same.trans ?hq (by assumption); (case hq => walk_at "hpS"))
  | fail)
local macro_rules | `(tactic| walk_at "hpH") => `(tactic| with_reducible first
  | assumption
  | exact upd_same
  | (refine' same_at (same_new (by assumption)) ?hq; (case hq => walk_at "hpH"))
  | (refine' same_at (by assumption) ?hq; (case hq => walk_at "hpH"))
  | fail)
local macro_rules | `(tactic| walk_at "hpTo") => `(tactic| with_reducible first
  | assumption
  | (refine' sq_t (same_new (by assumption)) ?hq; (case hq => walk_at "hpTo"))
  | (refine' sq_t (by assumption) ?hq; (case hq => walk_at "hpTo"))
  | fail)
local macro_rules | `(tactic| walk_at "hpT") => `(tactic| with_reducible first
  | (refine' SqT.of ?hq; (case hq => walk_at "hpH"))
  | walk_at "hpTo"
  | fail)
local macro_rules | `(tactic| walk_at "hpLo") => `(tactic| with_reducible first
  | assumption
  | (refine' sq_l (same_new (by assumption)) ?hq; (case hq => walk_at "hpLo"))
  | (refine' sq_l (by assumption) ?hq; (case hq => walk_at "hpLo"))
  | fail)
local macro_rules | `(tactic| walk_at "hpL") => `(tactic| with_reducible first
  | (refine' SqL.of ?hq; (case hq => walk_at "hpH"))
  | walk_at "hpLo"
  | fail)
local macro_rules | `(tactic| walk_at "kit") => `(tactic| with_reducible first
  | exact kit_int_bool | exact kit_int_int | exact kit_int_tuple | exact kit_int_list | exact kit_int_str
  | exact kit_tuple_tuple | exact kit_tuple_int | exact kit_tuple_bool | exact kit_tuple_list | exact kit_tuple_str
  | exact kit_bool_bool | exact kit_bool_int | exact kit_bool_tuple | exact kit_bool_list | exact kit_bool_str
  | exact kit_str_str | exact kit_str_int | exact kit_str_bool | exact kit_str_tuple | exact kit_str_list
  | exact kit_NoneType_int | exact kit_NoneType_bool | exact kit_NoneType_tuple | exact kit_NoneType_list | exact kit_NoneType_str
  | exact kit_list_list | exact kit_list_tuple | exact kit_list_int | exact kit_list_bool | exact kit_list_str
  | fail)
local macro_rules | `(tactic| walk_at "call") => `(tactic| fail)
local macro_rules | `(tactic| walk_at "s0") => `(tactic| with_reducible first
  | refine g_seq ?_ | refine g_asg ?_ | refine g_name ?_ | refine g_ifS ?_ | refine g_ret ?_ | refine g_retN ?_ | refine g_next ?_
  | refine g_par ?_ | refine g_parE ?_ | refine g_drop ?_
  | refine g_c ?_ | refine g_op ?_ | refine g_un ?_ | refine g_cb ?_ | refine g_call ?_ | refine g_nil ?_ | refine g_cons ?_ | refine g_tup ?_ | refine g_lst ?_
  | refine g_test ?_ | refine g_B ?_ | refine g_blF ?_ | refine g_and ?_ | refine g_or ?_ | refine g_not ?_ | refine g_andV ?_ | refine g_orV ?_ | refine g_notV ?_ | refine g_if ?_
  | refine iteT ?_ | refine iteF ?_
  | refine g_chain ?_ | refine g_sl ?_ | refine g_noPart ?_ | refine g_part ?_ | refine g_partI ?_ | refine g_slS ?_ ?side | refine g_M1 ?_ | refine g_M1s ?_ | refine g_starts ?_ | refine g_bm ?_ | refine g_bm0 ?_ | refine g_tyS ?_
  | refine g_Fs ?_ | refine g_JsN ?_ | refine g_JsC ?_ | refine g_JsE ?_ ?side | refine g_fmt ?_ | refine g_fmtI ?_ ?side | refine g_fmtS ?_ ?side | refine g_iList ?_ | refine g_iTup ?_ | refine g_iStr ?_ | refine g_iStrE ?_ | refine g_iRng1 ?_ | refine g_iRng1E ?_ ?side1 ?side2 | refine g_yes ?_ | refine g_ckw ?_ | refine g_dget ?_ | refine g_dictZip ?_ | refine g_gCons ?_ | refine g_gNil ?_ | refine g_revL ?_ | refine g_for ?_ | refine g_lc ?_ | refine g_addS ?_ ?side | refine g_str ?_ ?side | refine g_lenS ?_ ?side
  | refine g_rI0 ?_ | refine g_rI ?_ ?side | refine g_rU ?_ | refine g_abs ?_ | refine g_int ?_ | refine g_intB ?_ | refine g_gcd ?_ | refine g_inS ?_ | refine g_isN0 ?_ | refine g_notN0 ?_
  | fail)
local macro_rules | `(tactic| walk_at "s1") => `(tactic| first
  | ((with_reducible refine' g_var ?h ?_); (case h => exact rfl))
  | ((with_reducible refine' g_new ?h ?_); (case h => exact (by simp only [List.length_cons, List.length_nil]; decide)); intro tnew htnew)
  | ((with_reducible refine' iteDT ?h ?_); (case h => first | exact rfl | assumption))
  | ((with_reducible refine' iteNT ?h ?_); (case h => first | exact rfl | assumption))
  | ((with_reducible refine' iteDF ?h ?_); (case h => first | assumption | (intro z; cases z)))
  | ((with_reducible refine' iteNF ?h ?_); (case h => first | assumption | (intro z; cases z)))
  | ((with_reducible refine' g_eq ?_ ?h); (case h => exact rfl))
  | ((with_reducible refine' g_ne ?_ ?h); (case h => exact rfl))
  | ((with_reducible refine' g_ixT ?_ ?h ?e); (case h => walk_at "hpT"); (case e => first | exact rfl | exact atI_0 | exact atI_1))
  | ((with_reducible refine' g_ixL ?_ ?h ?e); (case h => walk_at "hpL"); (case e => first | exact rfl | exact atI_0 | exact atI_1))
  | ((with_reducible refine' g_isi_int ?_ ?h); (case h => walk_at "kit"))
  | ((with_reducible refine' g_isi_str ?_ ?h); (case h => walk_at "kit"))
  | ((with_reducible refine' g_isi_bl ?_ ?h); (case h => walk_at "kit"))
  | ((with_reducible refine' g_isi_non ?_ ?h); (case h => walk_at "kit"))
  | ((with_reducible refine' g_isi_t ?_ ?t ?h); (case t => walk_at "hpT"); (case h => walk_at "kit"))
  | ((with_reducible refine' g_isi_l ?_ ?t ?h ?l); (case l => walk_at "hpH"); (case t => walk_at "hpL"); (case h => walk_at "kit"))
  | ((with_reducible refine' g_lenT ?_ ?h); (case h => walk_at "hpT"))
  | ((with_reducible refine' g_lenL ?_ ?h); (case h => walk_at "hpL"))
  | ((with_reducible refine' g_split ?_ ?h ?side); (case h => exact rfl); intro pnew hpnew)
  | ((with_reducible refine' g_slL ?h ?_); (case h => walk_at "hpL"); intro pnew hpnew)
  | ((with_reducible refine' g_iListE ?_ ?h); (case h => walk_at "hpL"))
  | ((with_reducible refine' g_iTupE ?_ ?h); (case h => walk_at "hpT"))
  | ((with_reducible refine' g_tyL ?_ ?h); (case h => walk_at "hpL"))
  | ((with_reducible refine' g_join ?_ ?h ?side); (case h => walk_at "hpL"))
  | ((with_reducible refine' g_append ?_ ?h ?side); (case h => walk_at "hpH"))
  | ((with_reducible refine' g_all ?_ ?h); (case h => walk_at "hpL"))
  | ((with_reducible refine' g_gTup ?_ ?h ?n); (case h => walk_at "hpT"); (case n => exact rfl))
  | ((with_reducible refine' g_revLE ?h ?_); (case h => walk_at "hpL"); intro pnew hpnew)
  | ((with_reducible refine' g_isN1 ?_ ?h); (case h => first | assumption | (intro z; cases z)))
  | ((with_reducible refine' g_notN1 ?_ ?h); (case h => first | assumption | (intro z; cases z)))
  | walk_at "call"
  | ((with_reducible refine' iteBT ?h ?_); (case h => first | assumption | exact rfl))
  | ((with_reducible refine' iteBF ?h ?_); (case h => first | assumption | exact rfl))
  | fail)
local macro_rules | `(tactic| walk_at "nrm") => `(tactic| simp only [Bool.not_true, Bool.not_false, decide_eq_true_eq, decide_true, decide_false, Bool.true_and, Bool.false_and, Bool.and_true, Bool.and_false, V.int.injEq, V.bl.injEq, V.str.injEq, List.length_cons, List.length_nil, Bool.not_eq_true', decide_eq_false_iff_not, Int.not_lt, Int.not_le, reduceCtorEq, not_false_eq_true, not_true_eq_false, Decidable.not_not] at *)
local macro_rules | `(tactic| walk_at "sp") => `(tactic| ((with_reducible refine ite2 (fun c => ?_) (fun c => ?_)) <;> (try simp only [decide_eq_true_eq, Bool.not_eq_true', decide_eq_false_iff_not, V.int.injEq, V.bl.injEq, V.str.injEq, Int.not_lt, Int.not_le, reduceCtorEq, Decidable.not_not, Bool.false_eq_true, Bool.true_eq_false] at c) <;> (try (exfalso; omega))))
local macro_rules | `(tactic| walk_at "s") => `(tactic| first | walk_at "s0" | walk_at "s1" | fail)
local macro_rules | `(tactic| walk_at "go") => `(tactic| (try dsimp only [cxK, cxK']); repeat' walk_at "s")
local macro_rules | `(tactic| walk_at "gos") => `(tactic| ((try dsimp only [cxK, cxK']); repeat' (first | walk_at "s" | walk_at "sp" | fail)))

local macro_rules | `(tactic| walk_at "hpNo") => `(tactic| with_reducible first
  | assumption
  | (refine' Nm.ofPr ?hq; (case hq => assumption))
  | (refine' Nm.same (same_new (by assumption)) ?hq; (case hq => walk_at "hpNo"))
  | (refine' Nm.same (by assumption) ?hq; (case hq => walk_at "hpNo"))
  | fail)
local macro_rules | `(tactic| walk_at "hpN") => `(tactic| with_reducible first
  | walk_at "hpNo"
  | (refine' Nm.of ?hq; (case hq => walk_at "hpH"))
  | fail)
local macro_rules | `(tactic| walk_at "hpPo") => `(tactic| with_reducible first
  | assumption
  | (refine' Pr.same (same_new (by assumption)) ?hq; (case hq => walk_at "hpPo"))
  | (refine' Pr.same (by assumption) ?hq; (case hq => walk_at "hpPo"))
  | fail)
local macro_rules | `(tactic| walk_at "hpP") => `(tactic| with_reducible first
  | walk_at "hpPo"
  | (refine' Pr.of ?hq; (case hq => walk_at "hpH"))
  | fail)
local macro_rules | `(tactic| walk_at "hpDo") => `(tactic| with_reducible first
  | assumption
  | exact Dq.int _ | exact Dq.bl _ | exact Dq.str _ | exact Dq.non
  | (refine' Dq.same (same_new (by assumption)) ?hq; (case hq => walk_at "hpDo"))
  | (refine' Dq.same (by assumption) ?hq; (case hq => walk_at "hpDo"))
  | fail)
local macro_rules | `(tactic| walk_at "hpD") => `(tactic| with_reducible first
  | walk_at "hpDo"
  | fail)

local macro_rules | `(tactic| walk_at "call") => `(tactic| first
  | ((with_reducible refine' sp_pair ?h ?_); (case h => walk_at "hpN"); intro tp Hp' sp' hp')
  | ((with_reducible refine' sp_below ?h1 ?h2 ?s1 ?s2 ?_); (case h1 => walk_at "hpP"); (case h2 => walk_at "hpP"); (case s1 => assumption); (case s2 => assumption))
  | fail)
section
variable {P : Program} {w : World} {K : Fg} {mg : Str → Option Value} {base : Heap} {f f1 f2 f3 : Addr} {fd : FuncData}
theorem ok_least (F : Fun K "least" "least" s_least f fd) (T : Blt mg) (D_pair : Df P w K mg base 1 "pair" f1 ["a"] spPair) (D_below : Df P w K mg base 1 "below" f2 ["a", "b"] spBelow) : FnOk P w K mg base CX0 2 f fd ["numbers"] (spBest K lst) := by
  obtain ⟨_, G_pair, B_pair⟩ := D_pair.ok
  obtain ⟨_, G_below, B_below⟩ := D_below.ok
  refine F.ok sc_least (fun vs H Q E h => ?_) (fun cdv A outer s H vs Q E hr h => ?_)
  · obtain ⟨a, xs, q, qs, rfl, _⟩ := h
    rfl
  · obtain ⟨a, xs, q, qs, rfl, ha, hp, hg, k⟩ := h
    refine ⟨_, (pss_cons (ps_set (i := 1) sc_least.nd rfl (.inl rfl) (pe_call G_pair (hr.mono (by decide)) (by rfl) D_pair.g D_pair.kp B_pair .nil pass0 (pa_cons (pe_ix (ix_seqK K) (pv 0) pe_int (fun _ _ => rfl)) pa_nil)))
      (pss_cons (ps_for PassesOwn.never rfl (pi_list (pv 0)) (pg_name (i := 2) sc_least.nd rfl (.inl rfl))
      (pss_one (ps_if (pt_val (pe_call G_below (hr.mono (by decide)) (by rfl) D_below.g D_below.kp B_below .nil pass0 (pa_cons (pe_call G_pair (hr.mono (by decide)) (by rfl) D_pair.g D_pair.kp B_pair .nil pass0 (pa_cons (pv 2) pa_nil)) (pa_cons (pv 1) pa_nil))))
      (pss_one (ps_set (i := 1) sc_least.nd rfl (.inl rfl) (pe_call G_pair (hr.mono (by decide)) (by rfl) D_pair.g D_pair.kp B_pair .nil pass0 (pa_cons (pv 2) pa_nil)))) pss_nil)))
      (pss_one (ps_ret (pv 1))))), ?_⟩
    obtain ⟨x0, xr, rfl⟩ : ∃ x0 xr, xs = x0 :: xr := by
      cases hp with
      | cons _ _ => exact ⟨_, _, rfl⟩
    have hx0 : Nm H x0 q := by
      cases hp with
      | cons h _ => exact h
    walk_at "go"
    rename_i t0 H0 s0 h0
    refine for_list (K := K) (a := a) (xs := x0 :: xr) (fun i σ H' => ∃ b vx, σ = [some (.ref a), some (.ref b), vx] ∧ H' b = some (.tup [.int (lst ((q :: qs).take i) q).1, .int (lst ((q :: qs).take i) q).2]) ∧ Same H H')
      ⟨t0, none, rfl, h0, s0⟩ (fun i σ H' _ h => ?_) (fun i x σ H' hx h => ?_) (fun σ H' h => ?_)
    · obtain ⟨_, _, _, _, s1⟩ := h
      exact sq_l s1 ha
    · obtain ⟨b, vx, rfl, hb, s1⟩ := h
      obtain ⟨y, hy, ny⟩ := paired_at (paired_same s1 hp) hx
      have gy := hg y (List.mem_of_getElem? hy)
      have gb : Gd (lst ((q :: qs).take i) q) := lst_gd (hg.take i) (hg q (.head _))
      have e := lst_take (b := q) hy
      generalize lst ((q :: qs).take i) q = z at hb gb e
      have sy := gy.2
      have sz := gb.2
      cases c : under y z with
      | true =>
        rw [if_pos c] at e
        walk_at "go"
        refine ⟨_, _, rfl, ?_, ?_⟩
        · rw [e]
          walk_at "hpH"
        · walk_at "hpS"
      | false =>
        rw [if_neg (by rw [c]; decide)] at e
        walk_at "go"
        refine ⟨_, _, rfl, ?_, ?_⟩
        · rw [e]
          walk_at "hpH"
        · walk_at "hpS"
    · obtain ⟨b, vx, rfl, hb, s1⟩ := h
      walk_at "go"
      rw [List.take_of_length_le (by rw [← hp.length]; exact Nat.le_refl _)] at hb
      exact k _ _ s1 hb
theorem ok_greatest_of (F : Fun K "greatest_of" "greatest_of" s_greatest_of f fd) (T : Blt mg) (D_pair : Df P w K mg base 1 "pair" f1 ["a"] spPair) (D_below : Df P w K mg base 1 "below" f2 ["a", "b"] spBelow) : FnOk P w K mg base CX0 2 f fd ["numbers"] (spBest K grt) := by
  obtain ⟨_, G_pair, B_pair⟩ := D_pair.ok
  obtain ⟨_, G_below, B_below⟩ := D_below.ok
  refine F.ok sc_greatest_of (fun vs H Q E h => ?_) (fun cdv A outer s H vs Q E hr h => ?_)
  · obtain ⟨a, xs, q, qs, rfl, _⟩ := h
    rfl
  · obtain ⟨a, xs, q, qs, rfl, ha, hp, hg, k⟩ := h
    refine ⟨_, (pss_cons (ps_set (i := 1) sc_greatest_of.nd rfl (.inl rfl) (pe_call G_pair (hr.mono (by decide)) (by rfl) D_pair.g D_pair.kp B_pair .nil pass0 (pa_cons (pe_ix (ix_seqK K) (pv 0) pe_int (fun _ _ => rfl)) pa_nil)))
      (pss_cons (ps_for PassesOwn.never rfl (pi_list (pv 0)) (pg_name (i := 2) sc_greatest_of.nd rfl (.inl rfl))
      (pss_one (ps_if (pt_val (pe_call G_below (hr.mono (by decide)) (by rfl) D_below.g D_below.kp B_below .nil pass0 (pa_cons (pv 1) (pa_cons (pe_call G_pair (hr.mono (by decide)) (by rfl) D_pair.g D_pair.kp B_pair .nil pass0 (pa_cons (pv 2) pa_nil)) pa_nil))))
      (pss_one (ps_set (i := 1) sc_greatest_of.nd rfl (.inl rfl) (pe_call G_pair (hr.mono (by decide)) (by rfl) D_pair.g D_pair.kp B_pair .nil pass0 (pa_cons (pv 2) pa_nil)))) pss_nil)))
      (pss_one (ps_ret (pv 1))))), ?_⟩
    obtain ⟨x0, xr, rfl⟩ : ∃ x0 xr, xs = x0 :: xr := by
      cases hp with
      | cons _ _ => exact ⟨_, _, rfl⟩
    have hx0 : Nm H x0 q := by
      cases hp with
      | cons h _ => exact h
    walk_at "go"
    rename_i t0 H0 s0 h0
    refine for_list (K := K) (a := a) (xs := x0 :: xr) (fun i σ H' => ∃ b vx, σ = [some (.ref a), some (.ref b), vx] ∧ H' b = some (.tup [.int (grt ((q :: qs).take i) q).1, .int (grt ((q :: qs).take i) q).2]) ∧ Same H H')
      ⟨t0, none, rfl, h0, s0⟩ (fun i σ H' _ h => ?_) (fun i x σ H' hx h => ?_) (fun σ H' h => ?_)
    · obtain ⟨_, _, _, _, s1⟩ := h
      exact sq_l s1 ha
    · obtain ⟨b, vx, rfl, hb, s1⟩ := h
      obtain ⟨y, hy, ny⟩ := paired_at (paired_same s1 hp) hx
      have gy := hg y (List.mem_of_getElem? hy)
      have gb : Gd (grt ((q :: qs).take i) q) := grt_gd (hg.take i) (hg q (.head _))
      have e := grt_take (b := q) hy
      generalize grt ((q :: qs).take i) q = z at hb gb e
      have sy := gy.2
      have sz := gb.2
      cases c : under z y with
      | true =>
        rw [if_pos c] at e
        walk_at "go"
        refine ⟨_, _, rfl, ?_, ?_⟩
        · rw [e]
          walk_at "hpH"
        · walk_at "hpS"
      | false =>
        rw [if_neg (by rw [c]; decide)] at e
        walk_at "go"
        refine ⟨_, _, rfl, ?_, ?_⟩
        · rw [e]
          walk_at "hpH"
        · walk_at "hpS"
    · obtain ⟨b, vx, rfl, hb, s1⟩ := h
      walk_at "go"
      rw [List.take_of_length_le (by rw [← hp.length]; exact Nat.le_refl _)] at hb
      exact k _ _ s1 hb
theorem ok_sort_keys (F : Fun K "sort_keys" "sort_keys" s_sort_keys f fd) (T : Blt mg) : FnOk P w K mg base CX0 1 f fd ["numbers"] (spKeys K) := by
  refine F.ok sc_sort_keys (fun vs H Q E h => ?_) (fun cdv A outer s H vs Q E hr h => ?_)
  · obtain ⟨a, xs, qs, rfl, _⟩ := h
    rfl
  · obtain ⟨a, xs, qs, rfl, ha, hp, hg, hl, k⟩ := h
    refine ⟨_, (pss_cons (ps_set (i := 1) sc_sort_keys.nd rfl (.inl rfl) (pe_callBK (cr_maxD rfl) (by rfl) T.n_max (by decide +kernel) (pa_cons (pe_lc (own := [("number", 2)]) (g := gName 2) (tt := tYes) rfl sc_sort_keys.nd (pi_list (pv 0)) (blkOk_by (N := ["numbers", "most", "number", "scale"]) (sc := defScope s_sort_keys) (by decide +kernel)) (fun _ _ _ _ _ => pg_name (i := 2) sc_sort_keys.nd rfl (.inl rfl)) (fun _ _ _ _ _ => pts_nil) (fun _ _ _ _ _ => (pe_ix (ix_seqK K) (pv 2) pe_int (fun _ _ => rfl)))) pa_nil) (pk_cons pe_int pk_nil)))
      (pss_cons (ps_set (i := 3) sc_sort_keys.nd rfl (.inr rfl) (pe_op op_mulW (pv 1) (pv 1)))
      (pss_one (ps_ret (pe_lc (own := [("number", 2)]) (g := gName 2) (tt := tYes) rfl sc_sort_keys.nd (pi_list (pv 0)) (blkOk_by (N := ["numbers", "most", "number", "scale"]) (sc := defScope s_sort_keys) (by decide +kernel)) (fun _ _ _ _ _ => pg_name (i := 2) sc_sort_keys.nd rfl (.inl rfl)) (fun _ _ _ _ _ => pts_nil) (fun _ _ _ _ _ => (pe_op op_fdivW (pe_op op_mulW (pe_ix (ix_seqK K) (pv 2) pe_int (fun _ _ => rfl)) (pv 3)) (pe_ix (ix_seqK K) (pv 2) pe_int (fun _ _ => rfl))))))))), ?_⟩
    have hlen := hp.length
    walk_at "go"
    intro d hd
    refine lcV (walk_list (K := K)) hd (fun i => .int ((qs.getD i (0, 1)).2)) hl (fun _ s => sq_l s ha) (fun i y H2 H2' hi s y' Kt kt => ?_) (fun H' s hH => ?_) gm_name
    · obtain ⟨rfl, hy⟩ := y'
      obtain ⟨q, b, hq, rfl, hb⟩ := paired_val hp hy
      refine g_wipe rfl ?_
      walk_at "go"
      have z := kt _ (Same.refl _)
      rw [List.getD_eq_getElem?_getD, hq] at z
      exact z
    · rw [hlen, map_at (g := fun q : Pq => V.int q.2) (fun k q h => by rw [List.getD_eq_getElem?_getD, h]; rfl), show qs.map (fun q : Pq => V.int q.2) = (qs.map (·.2)).map V.int from by rw [List.map_map]; rfl] at hH
      walk_at "go"
      refine g_maxD (SqL.of hH) fun m hm hle => ?_
      have hq1 : ∀ q ∈ qs, 1 ≤ q.2 ∧ q.2.natAbs < 2 ^ 4400 ∧ q.2 ≤ m := fun q hq => by
        have h1 := (hg q hq).1.1
        have h2 := hle q.2 (List.mem_map_of_mem hq)
        exact ⟨by omega, (hg q hq).2.2, h2⟩
      have m1 : 1 ≤ m ∧ m.natAbs < 2 ^ 4400 := by
        rcases hm with rfl | hm
        · exact ⟨Int.le_refl _, Nat.lt_of_lt_of_le (show 1 < 2 by decide) (show 2 ^ 1 ≤ 2 ^ 4400 from Nat.pow_le_pow_right (by decide) (by decide))⟩
        · obtain ⟨q, hq, rfl⟩ := List.mem_map.mp hm
          exact ⟨(hq1 q hq).1, (hq1 q hq).2.1⟩
      walk_at "go"
      all_goals try exact sz_mul m1.2 m1.2
      intro d2 hd2
      have mm : (m * m).natAbs < 2 ^ 8800 := wide_lt m1.2 m1.2
      refine lcV (walk_list (K := K)) hd2 (fun i => .int (key m (qs.getD i (0, 1)))) hl (fun _ s2 => sq_l (s.trans s2) ha) (fun i y H2 H2' hi s2 y' Kt kt => ?_) (fun H3 s3 hH3 => ?_) gm_name
      · obtain ⟨rfl, hy⟩ := y'
        obtain ⟨q, b, hq, rfl, hb⟩ := paired_val hp hy
        have gq := hg q (List.mem_of_getElem? hq)
        have hb2 := s2 _ _ (s _ _ hb)
        refine g_wipe rfl ?_
        walk_at "go"
        all_goals first
          | exact wide_mul gq.2.1 mm (by decide) (by decide) (by decide)
          | exact wide_div gq.1.1 gq.2.2 (by decide) (by decide)
          | skip
        have z := kt _ (Same.refl _)
        rw [List.getD_eq_getElem?_getD, hq] at z
        exact z
      · rw [hlen, map_at (g := fun q : Pq => V.int (key m q)) (fun k q h => by rw [List.getD_eq_getElem?_getD, h]; rfl)] at hH3
        refine k m d2 H3 m1.1 (fun q hq => (hq1 q hq).2.2) (s.trans s3) ?_
        rw [hH3]
        unfold keysOf
        rw [List.map_map]
        rfl
theorem ok_in_order (F : Fun K "in_order" "in_order" s_in_order f fd) (T : Blt mg) (D_pair : Df P w K mg base 1 "pair" f1 ["a"] spPair) (D_sort_keys : Df P w K mg base 1 "sort_keys" f2 ["numbers"] (spKeys K)) : FnOk P w K mg base CX0 2 f fd ["numbers"] (spOrder K false) := by
  obtain ⟨_, G_pair, B_pair⟩ := D_pair.ok
  obtain ⟨_, G_sort_keys, B_sort_keys⟩ := D_sort_keys.ok
  refine F.ok sc_in_order (fun vs H Q E h => ?_) (fun cdv A outer s H vs Q E hr h => ?_)
  · obtain ⟨a, xs, qs, rfl, _⟩ := h
    rfl
  · obtain ⟨a, xs, qs, rfl, ha, hp, hg, hl, k⟩ := h
    have hu := hu_of hr
    have ha : SqL K H a xs := ha
    refine ⟨_, (pss_cons (ps_setLc (i := 1) (own := [("number", 2)]) (g := gName 2) (tt := tYes) rfl sc_in_order.nd rfl rfl (sw_true rfl rfl rfl (by decide +kernel)) (pi_list (pv 0)) (blkOk_by (N := ["numbers", "pairs", "number", "table", "key"]) (sc := defScope s_in_order) (by decide +kernel)) (fun _ _ _ _ _ => pg_name (i := 2) sc_in_order.nd rfl (.inl rfl)) (fun _ _ _ _ _ => pts_nil) (fun _ _ _ _ _ => (pe_call G_pair (hr.mono (by decide)) (by rfl) D_pair.g D_pair.kp B_pair .nil pass0 (pa_cons (pv 2) pa_nil))))
      (pss_cons (ps_set (i := 3) sc_in_order.nd rfl (.inr rfl) (pe_dictZip rfl (by rfl) T.n_dict (by rfl) T.n_zip (pa_cons (pe_call G_sort_keys (hr.mono (by decide)) (by rfl) D_sort_keys.g D_sort_keys.kp B_sort_keys .nil pass0 (pa_cons (pv 1) pa_nil)) (pa_cons (pv 1) pa_nil))))
      (pss_one (ps_ret (pe_lc (own := [("key", 4)]) (g := gName 4) (tt := tYes) rfl sc_in_order.nd (pi_list (pe_callB (cg_sortedD rfl) (by rfl) T.n_sorted (by decide +kernel) (pa_cons (pv 3) pa_nil))) (blkOk_by (N := ["numbers", "pairs", "number", "table", "key"]) (sc := defScope s_in_order) (by decide +kernel)) (fun _ _ _ _ _ => pg_name (i := 4) sc_in_order.nd rfl (.inl rfl)) (fun _ _ _ _ _ => pts_nil) (fun _ _ _ _ _ => (pe_dget hu (pv 3) (pv 4) (fun _ _ => rfl)))))))), ?_⟩
    have hlen := hp.length
    walk_at "go"
    intro d hd
    refine lcA (walk_list (K := K)) hd (fun H' k y => ∃ q t, qs[k]? = some q ∧ y = .ref t ∧ t ≠ d ∧ H' t = some (.tup [.int q.1, .int q.2])) (by omega) (fun _ s => sq_l s ha) (fun H1 H2 k y b h => ?_) (fun i y H2 H2' hi s1 hD y' Kt kt => ?_) (fun H1 ys s1 hH hly hys => ?_) gm_name
    · obtain ⟨q, t, e1, e2, e3, e4⟩ := h
      exact ⟨q, t, e1, e2, e3, b _ _ e3 e4⟩
    · obtain ⟨rfl, hy⟩ := y'
      obtain ⟨q, hq, ny⟩ := paired_at (paired_same s1 hp) hy
      obtain ⟨acc, hD⟩ := hD
      refine g_wipe rfl ?_
      walk_at "go"
      rename_i tpx Hpx spx hpx
      refine kt _ _ spx ⟨q, _, hq, rfl, ?_, hpx⟩
      exact (ne_of (spx _ _ hD) hpx (by intro z; cases z)).symm
    · have hpr : Paired (Pr H1) ys qs := paired_of (by omega) fun i x y e1 e2 => by
        obtain ⟨q, t, f1, rfl, _, f2⟩ := hys i x e1
        rw [f1] at e2
        cases e2
        exact ⟨t, rfl, f2⟩
      walk_at "go"
      refine sp_keys (SqL.of hH) hpr hg (by omega) fun m e H2 m1 hm s2 hE => ?_
      have hH2 := s2 _ _ hH
      have hpr2 : Paired (Pr H2) ys qs := paired_mono (fun _ _ h => h.same s2) hpr
      walk_at "go"
      refine g_dictZipE (SqL.of hE) (SqL.of hH2) (by unfold keysOf; rw [List.length_map]; omega) fun p hp2 => ?_
      obtain ⟨ks, z1, z2, z3, z4, z5⟩ := zip_dict (ns := keysOf m qs) (ys := ys) (by unfold keysOf; rw [List.length_map]; omega)
      have hklen : (keysOf m qs).length = qs.length := List.length_map ..
      generalize hdct : mergeK [] (((keysOf m qs).map Sum.inl : List Key).zip ys) = dct at *
      walk_at "go"
      refine g_sortD upd_same z1 (by omega) z2 fun zs p2 y1 y2 y3 hp3 => ?_
      walk_at "go"
      intro d2 hd2
      have sA : Same H2 (upd (upd H2 p (.dK dct)) p2 (.lst (zs.map V.int))) := (same_new hp2).trans (same_new hp3)
      have hP : (upd (upd H2 p (.dK dct)) p2 (.lst (zs.map V.int))) p = some (.dK dct) := (same_new hp3) _ _ upd_same
      refine lcA (walk_list (K := K) (xs := zs.map V.int)) hd2 (fun H' k y => ∃ n q t, zs[k]? = some n ∧ q ∈ qs ∧ key m q = n ∧ y = .ref t ∧ t ≠ d2 ∧ H' t = some (.tup [.int q.1, .int q.2])) (by rw [List.length_map]; omega) (fun _ s => SqL.of (s _ _ upd_same)) (fun H3 H4 k y b h => ?_) (fun i y H3 H3' hi s3 hD y' Kt kt => ?_) (fun H3 vs s3 hH3 hlv hvs => ?_) gm_name
      · obtain ⟨n, q, t, e0, e1, e2, e3, e4, e5⟩ := h
        exact ⟨n, q, t, e0, e1, e2, e3, e4, b _ _ e4 e5⟩
      · obtain ⟨rfl, hy⟩ := y'
        rw [List.getElem?_map] at hy
        cases hz : zs[i]? with
        | none => rw [hz] at hy; cases hy
        | some n =>
          rw [hz] at hy
          cases hy
          obtain ⟨j, v, w1, w2, w3⟩ := z5 n ((y1 n).mp (List.mem_of_getElem? hz))
          obtain ⟨q, hq, t, rfl, ht⟩ := paired_at hpr2 w2
          have hq' : key m q = n := by
            unfold keysOf at w1
            rw [List.getElem?_map, hq] at w1
            exact Option.some.inj w1
          refine g_wipe rfl ?_
          walk_at "go"
          refine g_dgetI (s3 _ _ hP) w3 ?_
          obtain ⟨acc, hD⟩ := hD
          have ht3 := s3 _ _ (sA _ _ ht)
          exact kt _ _ (Same.refl _) ⟨n, q, t, hz, List.mem_of_getElem? hq, hq', rfl, (ne_of hD ht3 (by intro z; cases z)).symm, ht3⟩
      · obtain ⟨R, r1, r2⟩ := pick (G := fun k v (q : Pq) => ∃ n, zs[k]? = some n ∧ q ∈ qs ∧ key m q = n ∧ Pr H3 v q) fun k v h => by
          obtain ⟨n, q, t, e0, e1, e2, e3, e4, e5⟩ := hvs k v h
          exact ⟨q, n, e0, e1, e2, t, e3, e5⟩
        rw [List.length_map] at hlv
        have eR : R = ord qs := by_keys (m := m) (ns := zs) (fun q h => (hg q h).1) hm y3 (fun k => (y1 k).trans (z3 k)) (by omega) fun k q n e1 e2 => by
          have lt : k < vs.length := by
            have := (List.getElem?_eq_some_iff.mp e2).1
            omega
          obtain ⟨n', e0, e3, e4, _⟩ := r2 k _ q (List.getElem?_eq_getElem lt) e1
          rw [e2] at e0
          cases e0
          exact ⟨e3, e4⟩
        refine k d2 H3 vs ((s1.trans s2).trans (sA.trans s3)) ?_ hH3 ?_
        · exact ((s1.trans s2).trans sA).free hd2
        · rw [← eR]
          exact paired_of r1 fun i x y e1 e2 => by
            obtain ⟨_, _, _, _, e⟩ := r2 i x y e1 e2
            exact e
theorem ok_in_orderT (F : Fun K "in_order" "in_order" s_in_order f fd) (T : Blt mg) (D_pair : Df P w K mg base 1 "pair" f1 ["a"] spPair) (D_sort_keys : Df P w K mg base 1 "sort_keys" f2 ["numbers"] (spKeys K)) : FnOk P w K mg base CX0 2 f fd ["numbers"] (spOrder K true) := by
  obtain ⟨_, G_pair, B_pair⟩ := D_pair.ok
  obtain ⟨_, G_sort_keys, B_sort_keys⟩ := D_sort_keys.ok
  refine F.ok sc_in_order (fun vs H Q E h => ?_) (fun cdv A outer s H vs Q E hr h => ?_)
  · obtain ⟨a, xs, qs, rfl, _⟩ := h
    rfl
  · obtain ⟨a, xs, qs, rfl, ha, hp, hg, hl, k⟩ := h
    have hu := hu_of hr
    have ha : SqT K H a xs := ha
    refine ⟨_, (pss_cons (ps_setLc (i := 1) (own := [("number", 2)]) (g := gName 2) (tt := tYes) rfl sc_in_order.nd rfl rfl (sw_true rfl rfl rfl (by decide +kernel)) (pi_tup (pv 0)) (blkOk_by (N := ["numbers", "pairs", "number", "table", "key"]) (sc := defScope s_in_order) (by decide +kernel)) (fun _ _ _ _ _ => pg_name (i := 2) sc_in_order.nd rfl (.inl rfl)) (fun _ _ _ _ _ => pts_nil) (fun _ _ _ _ _ => (pe_call G_pair (hr.mono (by decide)) (by rfl) D_pair.g D_pair.kp B_pair .nil pass0 (pa_cons (pv 2) pa_nil))))
      (pss_cons (ps_set (i := 3) sc_in_order.nd rfl (.inr rfl) (pe_dictZip rfl (by rfl) T.n_dict (by rfl) T.n_zip (pa_cons (pe_call G_sort_keys (hr.mono (by decide)) (by rfl) D_sort_keys.g D_sort_keys.kp B_sort_keys .nil pass0 (pa_cons (pv 1) pa_nil)) (pa_cons (pv 1) pa_nil))))
      (pss_one (ps_ret (pe_lc (own := [("key", 4)]) (g := gName 4) (tt := tYes) rfl sc_in_order.nd (pi_list (pe_callB (cg_sortedD rfl) (by rfl) T.n_sorted (by decide +kernel) (pa_cons (pv 3) pa_nil))) (blkOk_by (N := ["numbers", "pairs", "number", "table", "key"]) (sc := defScope s_in_order) (by decide +kernel)) (fun _ _ _ _ _ => pg_name (i := 4) sc_in_order.nd rfl (.inl rfl)) (fun _ _ _ _ _ => pts_nil) (fun _ _ _ _ _ => (pe_dget hu (pv 3) (pv 4) (fun _ _ => rfl)))))))), ?_⟩
    have hlen := hp.length
    walk_at "go"
    intro d hd
    refine lcA (walk_tup (K := K)) hd (fun H' k y => ∃ q t, qs[k]? = some q ∧ y = .ref t ∧ t ≠ d ∧ H' t = some (.tup [.int q.1, .int q.2])) (by omega) (fun _ s => sq_t s ha) (fun H1 H2 k y b h => ?_) (fun i y H2 H2' hi s1 hD y' Kt kt => ?_) (fun H1 ys s1 hH hly hys => ?_) gm_name
    · obtain ⟨q, t, e1, e2, e3, e4⟩ := h
      exact ⟨q, t, e1, e2, e3, b _ _ e3 e4⟩
    · obtain ⟨rfl, hy⟩ := y'
      obtain ⟨q, hq, ny⟩ := paired_at (paired_same s1 hp) hy
      obtain ⟨acc, hD⟩ := hD
      refine g_wipe rfl ?_
      walk_at "go"
      rename_i tpx Hpx spx hpx
      refine kt _ _ spx ⟨q, _, hq, rfl, ?_, hpx⟩
      exact (ne_of (spx _ _ hD) hpx (by intro z; cases z)).symm
    · have hpr : Paired (Pr H1) ys qs := paired_of (by omega) fun i x y e1 e2 => by
        obtain ⟨q, t, f1, rfl, _, f2⟩ := hys i x e1
        rw [f1] at e2
        cases e2
        exact ⟨t, rfl, f2⟩
      walk_at "go"
      refine sp_keys (SqL.of hH) hpr hg (by omega) fun m e H2 m1 hm s2 hE => ?_
      have hH2 := s2 _ _ hH
      have hpr2 : Paired (Pr H2) ys qs := paired_mono (fun _ _ h => h.same s2) hpr
      walk_at "go"
      refine g_dictZipE (SqL.of hE) (SqL.of hH2) (by unfold keysOf; rw [List.length_map]; omega) fun p hp2 => ?_
      obtain ⟨ks, z1, z2, z3, z4, z5⟩ := zip_dict (ns := keysOf m qs) (ys := ys) (by unfold keysOf; rw [List.length_map]; omega)
      have hklen : (keysOf m qs).length = qs.length := List.length_map ..
      generalize hdct : mergeK [] (((keysOf m qs).map Sum.inl : List Key).zip ys) = dct at *
      walk_at "go"
      refine g_sortD upd_same z1 (by omega) z2 fun zs p2 y1 y2 y3 hp3 => ?_
      walk_at "go"
      intro d2 hd2
      have sA : Same H2 (upd (upd H2 p (.dK dct)) p2 (.lst (zs.map V.int))) := (same_new hp2).trans (same_new hp3)
      have hP : (upd (upd H2 p (.dK dct)) p2 (.lst (zs.map V.int))) p = some (.dK dct) := (same_new hp3) _ _ upd_same
      refine lcA (walk_list (K := K) (xs := zs.map V.int)) hd2 (fun H' k y => ∃ n q t, zs[k]? = some n ∧ q ∈ qs ∧ key m q = n ∧ y = .ref t ∧ t ≠ d2 ∧ H' t = some (.tup [.int q.1, .int q.2])) (by rw [List.length_map]; omega) (fun _ s => SqL.of (s _ _ upd_same)) (fun H3 H4 k y b h => ?_) (fun i y H3 H3' hi s3 hD y' Kt kt => ?_) (fun H3 vs s3 hH3 hlv hvs => ?_) gm_name
      · obtain ⟨n, q, t, e0, e1, e2, e3, e4, e5⟩ := h
        exact ⟨n, q, t, e0, e1, e2, e3, e4, b _ _ e4 e5⟩
      · obtain ⟨rfl, hy⟩ := y'
        rw [List.getElem?_map] at hy
        cases hz : zs[i]? with
        | none => rw [hz] at hy; cases hy
        | some n =>
          rw [hz] at hy
          cases hy
          obtain ⟨j, v, w1, w2, w3⟩ := z5 n ((y1 n).mp (List.mem_of_getElem? hz))
          obtain ⟨q, hq, t, rfl, ht⟩ := paired_at hpr2 w2
          have hq' : key m q = n := by
            unfold keysOf at w1
            rw [List.getElem?_map, hq] at w1
            exact Option.some.inj w1
          refine g_wipe rfl ?_
          walk_at "go"
          refine g_dgetI (s3 _ _ hP) w3 ?_
          obtain ⟨acc, hD⟩ := hD
          have ht3 := s3 _ _ (sA _ _ ht)
          exact kt _ _ (Same.refl _) ⟨n, q, t, hz, List.mem_of_getElem? hq, hq', rfl, (ne_of hD ht3 (by intro z; cases z)).symm, ht3⟩
      · obtain ⟨R, r1, r2⟩ := pick (G := fun k v (q : Pq) => ∃ n, zs[k]? = some n ∧ q ∈ qs ∧ key m q = n ∧ Pr H3 v q) fun k v h => by
          obtain ⟨n, q, t, e0, e1, e2, e3, e4, e5⟩ := hvs k v h
          exact ⟨q, n, e0, e1, e2, t, e3, e5⟩
        rw [List.length_map] at hlv
        have eR : R = ord qs := by_keys (m := m) (ns := zs) (fun q h => (hg q h).1) hm y3 (fun k => (y1 k).trans (z3 k)) (by omega) fun k q n e1 e2 => by
          have lt : k < vs.length := by
            have := (List.getElem?_eq_some_iff.mp e2).1
            omega
          obtain ⟨n', e0, e3, e4, _⟩ := r2 k _ q (List.getElem?_eq_getElem lt) e1
          rw [e2] at e0
          cases e0
          exact ⟨e3, e4⟩
        refine k d2 H3 vs ((s1.trans s2).trans (sA.trans s3)) ?_ hH3 ?_
        · exact ((s1.trans s2).trans sA).free hd2
        · rw [← eR]
          exact paired_of r1 fun i x y e1 e2 => by
            obtain ⟨_, _, _, _, e⟩ := r2 i x y e1 e2
            exact e
end
end Ko


namespace Ko
open PySem L2 PySem.Spec PyProof.Rows Xm
open PySem.HandSPX (veTail)
theorem sc_BadNumber : FnScope ["self", "value"] ["self", "value"] (defScope s_BadNumber) := ⟨rfl, rfl, rfl, by decide +kernel, rfl, by decide +kernel, by decide +kernel⟩
section
variable {P : Program} {w : World} {K : Fg} {mg : Str → Option Value} {base : Heap} {R C f : Addr} {fd : FuncData}
theorem in_BadNumber (F : Fun K "__init__" "BadNumber.__init__" s_BadNumber f fd) (T : RTxt K mg R) (E : Ecl K mg R "BadNumber" C ["value"]) : FnOk P w K mg base CX0 1 f fd ["self", "value"] (spI C ["value"]) := by
  refine F.ok sc_BadNumber (fun vs H Q E h => ?_) (fun cdv A outer s H vs Q X hr h => ?_)
  · obtain ⟨a, args, rfl, hl, _⟩ := h
    simp [hl]
  · obtain ⟨a, args, rfl, hl, ha, q⟩ := h
    match args, hl with
    | [v], _ =>
      refine ⟨_, (pss_cons (ps_expr (pe_base (by rfl) T.g T.rd T.vB (pa_cons (pv 0) (pa_cons pe_str pa_nil))))
      (pss_one (ps_ost (pv 0) (pv 1)))), ?_⟩
      refine ⟨_, rfl, a, C, _, rfl, by show 1 ≤ 1000; decide, E.oex, ha, _, rfl, _, rfl, a, C, rfl, E.oex, E.no _ (by simp), .inl ⟨ha, fun d hd hne => ?_⟩⟩
      exact q _ ⟨.inr ⟨d, hne, upd_same, by rw [upd_ne hne]; exact upd_same⟩, fun p o hp e => by rw [upd_ne hp, upd_ne (ne_of_none e hd)]; exact e⟩
theorem bd_BadNumber (F : Fun K "__init__" "BadNumber.__init__" s_BadNumber f fd) : Bnd K fd ["value"] :=
  ⟨kb F 2 [] gApp (fun _ _ _ _ => Vals.append) (fun _ _ _ _ _ _ us ws l1 l2 => match us, ws, l1, l2 with | [_, _], [], _, _ => rfl), kb F 1 ["value"] gApp (fun _ _ _ _ => Vals.append) (fun _ _ _ _ _ _ us ws l1 l2 => match us, ws, l1, l2 with | [_], [_], _, _ => rfl)⟩
end
/-- the one error of this text -/
structure Bn (P : Program) (w : World) (K : Fg) (mg : Str → Option Value) (base : Heap) (R C : Addr) : Prop where
  r : RTxt K mg R
  e : Ecl K mg R "BadNumber" C ["value"]
  m : ∃ f fd, Mkr K C f ∧ FnOk P w K mg base CX0 1 f fd ["self", "value"] (spI C ["value"]) ∧ Bnd K fd ["value"]
  ne : C ≠ R
/-- an error just made, with its field, is raised -/
theorem rdV {H H3 : Hp} {a C : Addr} {v : V} {Rz : Value → Prop} {Q : XK} (ha : H a = none) (mk : Made (upd H a (exo a C none)) H3 a C [("value", v)]) (hr : Rz (.ref C))
    (q : ∀ (d : Addr) (H' : Hp), Same H H' → H' d = some (exd d [("value", v)]) → Q (.ref C) (some d) H') :
    ∃ (a' C' : Addr) (d : Option Addr), V.ref a = .ref a' ∧ H3 a' = some (exo a' C' d) ∧ Fr0 H a' ∧ Rz (.ref C') ∧ Q (.ref C') d (delH H3 a') := by
  have s : Same H (delH H3 a) := fun p o e => by
    rw [delH_ne (ne_of_none e ha)]
    exact mk.2 p o (ne_of_none e ha) (by rw [upd_ne (ne_of_none e ha)]; exact e)
  rcases mk.1 with ⟨e, _⟩ | ⟨d, ne, e, ed⟩
  · cases e
  · exact ⟨a, C, some d, rfl, e, fr0_none ha, hr, q d _ s (by rw [delH_ne ne]; exact ed)⟩
/-- e.n of the error that the suite holds -/
def tXe (a : Addr) (cls : Value) (d : Option Addr) (C : Addr) (n : Str) (te : TE) : TE := fun σ H Q => te σ H fun x H1 => x = .ref a ∧ cls = .ref C ∧ ∃ (dd : Addr) (fs : List (Str × V)) (v : V), d = some dd ∧ H1 dd = some (exd dd fs) ∧ fs.lookup n = some v ∧ Q v H1
theorem pe_xe {X : Cx} {a C : Addr} {oe : Obj} {cls : Value} {d : Option Addr} {pn : List (Addr × Obj)} {e : Expr} {te : TE} {pos : Pos} {n : Str} (T : XfC X.K C) (hno : PySem.W.findIn X.K (.ref C) n = some none)
    (hz : Zc cls d oe) (hf : ∃ vs, oe.data = .fields vs) (he : PE (X.suite a ((a, oe) :: pn)) e te) (hb : attributeBase e n X.env (eval e X.env) = eval e X.env := by rfl) :
    PE (X.suite a ((a, oe) :: pn)) (.Attribute e n pos) (tXe a cls d C n te) := by
  refine ⟨fun pins s σ H Q I h => attr_of hb (thn (he.run pins s σ H _ I h) fun u s1 hh => ?_)⟩
  obtain ⟨x, H1, I1, rx, ex, ec, dd, fs, v, ed, ea, l, q⟩ := hh
  subst ex ec ed
  obtain rfl : u = Value.ref a := rx
  have pin := (I1.pin (a, oe) (List.mem_append_left _ List.mem_cons_self)).1
  obtain ⟨vs, hd⟩ := hf
  obtain ⟨mA, hns, hr⟩ := exd_at I1.hok ea
  obtain ⟨od, ho, hl⟩ := lookIn_ns hns
  obtain ⟨y, hu, ru⟩ := RelO.some_of (v := v) (o := mA n) (by rw [← l]; exact hr n)
  have J : PySem.W.InstAt s1.heap a oe C (some od) := ⟨pin, hz.1, by unfold PySem.W.notCls; rw [hd] <;> rfl, by rw [hz.2]; exact ho⟩
  exact HandSPX.exc_get I1.kIn J T.ga T.gg T.exC (PySem.W.findObj_own T.hdC hno rfl (by rw [hl, hu])) (handed_of ru) ⟨v, H1, I1.tok _, ru, q⟩
end Ko


namespace Ko
open PySem L2 PySem.Spec PyProof.Rows Xm
/-- what exact makes of a value -/
def exD : Dt → Option Pq
  | .int n => some (n, 1)
  | .tup [.int n, .int d] => if d = 0 then none else some (red n d)
  | .str x => readL (TL.tl x)
  | _ => none
def exOk : Dt → Prop
  | .tup [.int n, .int d] => d.natAbs < 2 ^ 8900
  | .str x => x.length ≤ 10000
  | _ => True
def txt (q : Pq) : Str := if q.2 = 1 then Str.ofString (toString q.1) else Str.empty ++ Str.ofString (toString q.1) ++ "/" ++ Str.ofString (toString q.2)
def spWText : Sp := fun vs H Q _ => ∃ n : Int, vs = [.int n] ∧ 0 ≤ n ∧ n < 10 ^ 64 ∧ ∀ H', Same H H' → Q (.str (Str.ofString (toString n))) H'
def spText : Sp := fun vs H Q _ => ∃ x q, vs = [x] ∧ Nm H x q ∧ 0 < q.2 ∧ q.1.natAbs < 10 ^ 60 ∧ q.2.natAbs < 10 ^ 60 ∧ ∀ H', Same H H' → Q (.str (txt q)) H'
def spExact : Sp := fun vs H Q _ => ∃ v d q, vs = [v] ∧ Dq H v d ∧ exOk d ∧ exD d = some q ∧ Ret H Q q
def spExactX (C : Addr) : Sp := fun vs H Q E => ∃ v d, vs = [v] ∧ Dq H v d ∧ exOk d ∧ exD d = none ∧ ∀ dx H', Same H H' → H' dx = some (exd dx [("value", v)]) → E (.ref C) (some dx) H'
def spOverX (C : Addr) : Sp := fun vs H Q E => ∃ x y p q, vs = [x, y] ∧ Nm H x p ∧ Nm H y q ∧ q.1 = 0 ∧ ∀ t dx H', Same H H' → H' t = some (.tup [.int q.1, .int q.2]) → H' dx = some (exd dx [("value", .ref t)]) → E (.ref C) (some dx) H'
def spOver : Sp := fun vs H Q _ => ∃ x y p q, vs = [x, y] ∧ Nm H x p ∧ Nm H y q ∧ Lo p ∧ Lo q ∧ q.1 ≠ 0 ∧ Sz 4400 p ∧ Sz 4400 q ∧ Ret H Q (dv p q)
section
variable {H : Hp} {Q : VK} {E : XK} {v x : V} {d : Dt} {q : Pq}
theorem sp_wtext {n : Int} (k : ∀ H', Same H H' → Q (.str (Str.ofString (toString n))) H') (h0 : 0 ≤ n) (h1 : n < 10 ^ 64) : spWText [.int n] H Q E := ⟨n, rfl, h0, h1, k⟩
end

local macro_rules | `(tactic| walk_at "hpS") => `(tactic| with_reducible first
  | exact Same.refl _
  | assumption
  | (refine' Same.trans ?hq (same_new (by assumption)); (case hq => walk_at "hpS"))
  | (refine' Same.trans ?hq (by assumption); (case hq => walk_at "hpS"))
  | fail)
local macro_rules | `(tactic| walk_at "hpH") => `(tactic| with_reducible first
  | assumption
  | exact upd_same
  | (refine' same_at (same_new (by assumption)) ?hq; (case hq => walk_at "hpH"))
  | (refine' same_at (by assumption) ?hq; (case hq => walk_at "hpH"))
  | fail)
local macro_rules | `(tactic| walk_at "hpTo") => `(tactic| with_reducible first
  | assumption
  | (refine' sq_t (same_new (by assumption)) ?hq; (case hq => walk_at "hpTo"))
  | (refine' sq_t (by assumption) ?hq; (case hq => walk_at "hpTo"))
  | fail)
local macro_rules | `(tactic| walk_at "hpT") => `(tactic| with_reducible first
  | (refine' SqT.of ?hq; (case hq => walk_at "hpH"))
  | walk_at "hpTo"
  | fail)
local macro_rules | `(tactic| walk_at "hpLo") => `(tactic| with_reducible first
  | assumption
  | (refine' sq_l (same_new (by assumption)) ?hq; (case hq => walk_at "hpLo"))
  | (refine' sq_l (by assumption) ?hq; (case hq => walk_at "hpLo"))
  | fail)
local macro_rules | `(tactic| walk_at "hpL") => `(tactic| with_reducible first
  | (refine' SqL.of ?hq; (case hq => walk_at "hpH"))
  | walk_at "hpLo"
  | fail)
local macro_rules | `(tactic| walk_at "kit") => `(tactic| with_reducible first
  | exact kit_int_bool | exact kit_int_int | exact kit_int_tuple | exact kit_int_list | exact kit_int_str
  | exact kit_tuple_tuple | exact kit_tuple_int | exact kit_tuple_bool | exact kit_tuple_list | exact kit_tuple_str
  | exact kit_bool_bool | exact kit_bool_int | exact kit_bool_tuple | exact kit_bool_list | exact kit_bool_str
  | exact kit_str_str | exact kit_str_int | exact kit_str_bool | exact kit_str_tuple | exact kit_str_list
  | exact kit_NoneType_int | exact kit_NoneType_bool | exact kit_NoneType_tuple | exact kit_NoneType_list | exact kit_NoneType_str
  | exact kit_list_list | exact kit_list_tuple | exact kit_list_int | exact kit_list_bool | exact kit_list_str
  | fail)
local macro_rules | `(tactic| walk_at "call") => `(tactic| fail)
local macro_rules | `(tactic| walk_at "s0") => `(tactic| with_reducible first
  | refine g_seq ?_ | refine g_asg ?_ | refine g_name ?_ | refine g_ifS ?_ | refine g_ret ?_ | refine g_retN ?_ | refine g_next ?_
  | refine g_par ?_ | refine g_parE ?_ | refine g_drop ?_
  | refine g_c ?_ | refine g_op ?_ | refine g_un ?_ | refine g_cb ?_ | refine g_call ?_ | refine g_nil ?_ | refine g_cons ?_ | refine g_tup ?_ | refine g_lst ?_
  | refine g_test ?_ | refine g_B ?_ | refine g_blF ?_ | refine g_and ?_ | refine g_or ?_ | refine g_not ?_ | refine g_andV ?_ | refine g_orV ?_ | refine g_notV ?_ | refine g_if ?_
  | refine iteT ?_ | refine iteF ?_
  | refine g_chain ?_ | refine g_sl ?_ | refine g_noPart ?_ | refine g_part ?_ | refine g_partI ?_ | refine g_slS ?_ ?side | refine g_M1 ?_ | refine g_M1s ?_ | refine g_starts ?_ | refine g_bm ?_ | refine g_bm0 ?_ | refine g_tyS ?_
  | refine g_Fs ?_ | refine g_JsN ?_ | refine g_JsC ?_ | refine g_JsE ?_ ?side | refine g_fmt ?_ | refine g_fmtI ?_ ?side | refine g_fmtS ?_ ?side | refine g_iList ?_ | refine g_iTup ?_ | refine g_iStr ?_ | refine g_iStrE ?_ | refine g_iRng1 ?_ | refine g_iRng1E ?_ ?side1 ?side2 | refine g_yes ?_ | refine g_ckw ?_ | refine g_dget ?_ | refine g_dictZip ?_ | refine g_gCons ?_ | refine g_gNil ?_ | refine g_revL ?_ | refine g_for ?_ | refine g_lc ?_ | refine g_addS ?_ ?side | refine g_str ?_ ?side | refine g_lenS ?_ ?side
  | refine g_rI0 ?_ | refine g_rI ?_ ?side | refine g_rU ?_ | refine g_abs ?_ | refine g_int ?_ | refine g_intB ?_ | refine g_gcd ?_ | refine g_inS ?_ | refine g_isN0 ?_ | refine g_notN0 ?_
  | fail)
local macro_rules | `(tactic| walk_at "s1") => `(tactic| first
  | ((with_reducible refine' g_var ?h ?_); (case h => exact rfl))
  | ((with_reducible refine' g_new ?h ?_); (case h => exact (by simp only [List.length_cons, List.length_nil]; decide)); intro tnew htnew)
  | ((with_reducible refine' iteDT ?h ?_); (case h => first | exact rfl | assumption))
  | ((with_reducible refine' iteNT ?h ?_); (case h => first | exact rfl | assumption))
  | ((with_reducible refine' iteDF ?h ?_); (case h => first | assumption | (intro z; cases z)))
  | ((with_reducible refine' iteNF ?h ?_); (case h => first | assumption | (intro z; cases z)))
  | ((with_reducible refine' g_eq ?_ ?h); (case h => exact rfl))
  | ((with_reducible refine' g_ne ?_ ?h); (case h => exact rfl))
  | ((with_reducible refine' g_ixT ?_ ?h ?e); (case h => walk_at "hpT"); (case e => first | exact rfl | exact atI_0 | exact atI_1))
  | ((with_reducible refine' g_ixL ?_ ?h ?e); (case h => walk_at "hpL"); (case e => first | exact rfl | exact atI_0 | exact atI_1))
  | ((with_reducible refine' g_isi_int ?_ ?h); (case h => walk_at "kit"))
  | ((with_reducible refine' g_isi_str ?_ ?h); (case h => walk_at "kit"))
  | ((with_reducible refine' g_isi_bl ?_ ?h); (case h => walk_at "kit"))
  | ((with_reducible refine' g_isi_non ?_ ?h); (case h => walk_at "kit"))
  | ((with_reducible refine' g_isi_t ?_ ?t ?h); (case t => walk_at "hpT"); (case h => walk_at "kit"))
  | ((with_reducible refine' g_isi_l ?_ ?t ?h ?l); (case l => walk_at "hpH"); (case t => walk_at "hpL"); (case h => walk_at "kit"))
  | ((with_reducible refine' g_lenT ?_ ?h); (case h => walk_at "hpT"))
  | ((with_reducible refine' g_lenL ?_ ?h); (case h => walk_at "hpL"))
  | ((with_reducible refine' g_split ?_ ?h ?side); (case h => exact rfl); intro pnew hpnew)
  | ((with_reducible refine' g_slL ?h ?_); (case h => walk_at "hpL"); intro pnew hpnew)
  | ((with_reducible refine' g_iListE ?_ ?h); (case h => walk_at "hpL"))
  | ((with_reducible refine' g_iTupE ?_ ?h); (case h => walk_at "hpT"))
  | ((with_reducible refine' g_tyL ?_ ?h); (case h => walk_at "hpL"))
  | ((with_reducible refine' g_join ?_ ?h ?side); (case h => walk_at "hpL"))
  | ((with_reducible refine' g_append ?_ ?h ?side); (case h => walk_at "hpH"))
  | ((with_reducible refine' g_all ?_ ?h); (case h => walk_at "hpL"))
  | ((with_reducible refine' g_gTup ?_ ?h ?n); (case h => walk_at "hpT"); (case n => exact rfl))
  | ((with_reducible refine' g_revLE ?h ?_); (case h => walk_at "hpL"); intro pnew hpnew)
  | ((with_reducible refine' g_isN1 ?_ ?h); (case h => first | assumption | (intro z; cases z)))
  | ((with_reducible refine' g_notN1 ?_ ?h); (case h => first | assumption | (intro z; cases z)))
  | walk_at "call"
  | ((with_reducible refine' iteBT ?h ?_); (case h => first | assumption | exact rfl))
  | ((with_reducible refine' iteBF ?h ?_); (case h => first | assumption | exact rfl))
  | fail)
local macro_rules | `(tactic| walk_at "nrm") => `(tactic| simp only [Bool.not_true, Bool.not_false, decide_eq_true_eq, decide_true, decide_false, Bool.true_and, Bool.false_and, Bool.and_true, Bool.and_false, V.int.injEq, V.bl.injEq, V.str.injEq, List.length_cons, List.length_nil, Bool.not_eq_true', decide_eq_false_iff_not, Int.not_lt, Int.not_le, reduceCtorEq, not_false_eq_true, not_true_eq_false, Decidable.not_not] at *)
local macro_rules | `(tactic| walk_at "sp") => `(tactic| ((with_reducible refine ite2 (fun c => ?_) (fun c => ?_)) <;> (try simp only [decide_eq_true_eq, Bool.not_eq_true', decide_eq_false_iff_not, V.int.injEq, V.bl.injEq, V.str.injEq, Int.not_lt, Int.not_le, reduceCtorEq, Decidable.not_not, Bool.false_eq_true, Bool.true_eq_false] at c) <;> (try (exfalso; omega))))
local macro_rules | `(tactic| walk_at "s") => `(tactic| first | walk_at "s0" | walk_at "s1" | fail)
local macro_rules | `(tactic| walk_at "go") => `(tactic| (try dsimp only [cxK, cxK']); repeat' walk_at "s")
local macro_rules | `(tactic| walk_at "gos") => `(tactic| ((try dsimp only [cxK, cxK']); repeat' (first | walk_at "s" | walk_at "sp" | fail)))

local macro_rules | `(tactic| walk_at "hpNo") => `(tactic| with_reducible first
  | assumption
  | (refine' Nm.ofPr ?hq; (case hq => assumption))
  | (refine' Nm.same (same_new (by assumption)) ?hq; (case hq => walk_at "hpNo"))
  | (refine' Nm.same (by assumption) ?hq; (case hq => walk_at "hpNo"))
  | fail)
local macro_rules | `(tactic| walk_at "hpN") => `(tactic| with_reducible first
  | walk_at "hpNo"
  | (refine' Nm.of ?hq; (case hq => walk_at "hpH"))
  | fail)
local macro_rules | `(tactic| walk_at "hpPo") => `(tactic| with_reducible first
  | assumption
  | (refine' Pr.same (same_new (by assumption)) ?hq; (case hq => walk_at "hpPo"))
  | (refine' Pr.same (by assumption) ?hq; (case hq => walk_at "hpPo"))
  | fail)
local macro_rules | `(tactic| walk_at "hpP") => `(tactic| with_reducible first
  | walk_at "hpPo"
  | (refine' Pr.of ?hq; (case hq => walk_at "hpH"))
  | fail)
local macro_rules | `(tactic| walk_at "hpDo") => `(tactic| with_reducible first
  | assumption
  | exact Dq.int _ | exact Dq.bl _ | exact Dq.str _ | exact Dq.non
  | (refine' Dq.same (same_new (by assumption)) ?hq; (case hq => walk_at "hpDo"))
  | (refine' Dq.same (by assumption) ?hq; (case hq => walk_at "hpDo"))
  | fail)
local macro_rules | `(tactic| walk_at "hpD") => `(tactic| with_reducible first
  | walk_at "hpDo"
  | fail)

local macro_rules | `(tactic| walk_at "call") => `(tactic| first
  | ((with_reducible refine' sp_pair ?h ?_); (case h => walk_at "hpN"); intro tp Hp' sp' hp')
  | ((with_reducible refine' sp_reduced ?_ ?side1 ?side2); intro tp Hp' sp' hp')
  | ((with_reducible refine' sp_whole ?h ?_); (case h => walk_at "hpD"))
  | ((with_reducible refine' sp_frac ?h ?_); (case h => walk_at "hpD"))
  | ((with_reducible refine' sp_wtext ?_ ?side1 ?side2); intro Hw' sw')
  | fail)
section
variable {P : Program} {w : World} {K : Fg} {mg : Str → Option Value} {base : Heap} {R C f f1 f2 f3 f4 : Addr} {fd : FuncData}
theorem ok_whole_text (F : Fun K "whole_text" "whole_text" s_whole_text f fd) (T : Blt mg) : FnOk P w K mg base CX0 1 f fd ["n"] spWText := by
  refine F.ok sc_whole_text (fun vs H Q E h => ?_) (fun cdv A outer s H vs Q E hr h => ?_)
  · obtain ⟨n, rfl, _⟩ := h
    rfl
  · obtain ⟨n, rfl, n0, n1, k⟩ := h
    refine ⟨_, (pss_cons (ps_set (i := 1) sc_whole_text.nd rfl (.inl rfl) (pe_op op_pow pe_int pe_int))
      (pss_cons (ps_set (i := 2) sc_whole_text.nd rfl (.inl rfl) (pe_lst pa_nil))
      (pss_cons (ps_while PassesOwn.never (pt_cmpR op_ge (pv 0) (pv 1) (nomark _)) pss_never)
      (pss_cons (ps_expr (pe_bm PySem.F.plainAttrs_list PySem.F.slot_list_append PySem.F.type_list_append mt_append (pv 2) (pa_cons (pe_callTy cg_str (by rfl) T.n_str (by decide +kernel) (pa_cons (pv 0) pa_nil)) pa_nil)))
      (pss_one (ps_ret (pe_joinN pe_str (pe_revL (pv 2))))))))), ?_⟩
    have hn : n.natAbs < 10 ^ 64 := by omega
    walk_at "go"
    all_goals try exact ⟨by decide, by decide, by decide⟩
    refine g_while0 (fun R r => ?_) ?_
    · walk_at "go"
      rw [decide_eq_false (show ¬ (10 : Int) ^ Int.toNat 64 ≤ n by have e : (10 : Int) ^ Int.toNat 64 = 10 ^ 64 := rfl; omega)]
      exact r
    · walk_at "go"
      all_goals first
        | exact log_of hn
        | exact (show 0 < sizeLine by rw [sizeLine_eq]; decide)
        | skip
      rename_i p0 np0 p np
      have s1 : Same H (upd (upd H p0 (.lst [])) p0 (.lst ([] ++ [V.str (Str.ofString (toString n))]))) := fun a o ha => by
        rw [upd_ne (ne_of_none ha np0), upd_ne (ne_of_none ha np0)]
        exact ha
      refine g_join (ys := [Str.ofString (toString n)]) ?_ (SqL.of upd_same) ?_
      · have e : Txt.join ("" : Str) [Str.ofString (toString n)] = Str.ofString (toString n) := by
          rw [TL.join_eq]
          rfl
        rw [e]
        exact k _ (s1.trans (same_new np))
      · show (Str.ofString (toString n)).length + 0 + 1 * 0 ≤ 16777216
        have := len_int (k := 64) (by decide) hn
        omega
theorem ok_number_text (F : Fun K "number_text" "number_text" s_number_text f fd) (T : Blt mg) (D_pair : Df P w K mg base 1 "pair" f1 ["a"] spPair) (D_whole_text : Df P w K mg base 1 "whole_text" f2 ["n"] spWText) : FnOk P w K mg base CX0 2 f fd ["a"] spText := by
  obtain ⟨_, G_pair, B_pair⟩ := D_pair.ok
  obtain ⟨_, G_whole_text, B_whole_text⟩ := D_whole_text.ok
  refine F.ok sc_number_text (fun vs H Q E h => ?_) (fun cdv A outer s H vs Q E hr h => ?_)
  · obtain ⟨x, q, rfl, _⟩ := h
    rfl
  · obtain ⟨x, q, rfl, hx, q0, n1, d1, k⟩ := h
    refine ⟨_, (pss_cons (ps_asg (pe_call G_pair (hr.mono (by decide)) (by rfl) D_pair.g D_pair.kp B_pair .nil pass0 (pa_cons (pv 0) pa_nil)) (pg_tup rfl (pgs_cons (pg_name (i := 1) sc_number_text.nd rfl (.inl rfl)) (pgs_cons (pg_name (i := 2) sc_number_text.nd rfl (.inl rfl)) pgs_nil))))
      (pss_cons (ps_set (i := 3) sc_number_text.nd rfl (.inl rfl) (pe_ifExp (pt_cmpR op_lt (pv 1) pe_int (nomark _)) pe_str pe_str))
      (pss_cons (ps_set (i := 4) sc_number_text.nd rfl (.inl rfl) (pe_call G_whole_text (hr.mono (by decide)) (by rfl) D_whole_text.g D_whole_text.kp B_whole_text .nil pass0 (pa_cons (pe_callB cg_abs (by rfl) T.n_abs (by decide +kernel) (pa_cons (pv 1) pa_nil)) pa_nil)))
      (pss_one (ps_ret (pe_ifExp (pt_cmpR op_eq (pv 2) pe_int (nomark _)) (pe_joinedN (.cons (pe_fmt (pv 3)) (.cons (pe_fmt (pv 4)) .nil))) (pe_joinedN (.cons (pe_fmt (pv 3)) (.cons (pe_fmt (pv 4)) (.cons pe_str (.cons (pe_fmt (pe_call G_whole_text (hr.mono (by decide)) (by rfl) D_whole_text.g D_whole_text.kp B_whole_text .nil pass0 (pa_cons (pv 2) pa_nil))) .nil))))))))))), ?_⟩
    have nn : q.1.natAbs < 10 ^ 64 := Nat.lt_of_lt_of_le n1 (by decide)
    have dd : q.2.natAbs < 10 ^ 64 := Nat.lt_of_lt_of_le d1 (by decide)
    have l1 := len_int (k := 64) (by decide) nn
    have l2 := len_int (k := 64) (by decide) dd
    have st := sign_top q.1
    have hs : (sizeLine : Nat) = 16777216 := sizeLine_eq
    have e0 : (Str.empty).length = 0 := rfl
    have e1 : ("-" : Str).length = 1 := by decide +kernel
    have e2 : ("" : Str).length = 0 := by decide +kernel
    have e3 : ("/" : Str).length = 1 := by decide +kernel
    have la : ∀ a b : Str, (a ++ b).length = a.length + b.length := fun a b => by
      rw [TL.len_tl, TL.len_tl, TL.len_tl, TL.tl_append, List.length_append]
    by_cases c : q.1 < 0
    · have l3 := len_int (i := -q.1) (k := 64) (by decide) (by first | (rw [Int.natAbs_neg]; exact nn) | exact nn)
      rw [if_pos c, if_pos c] at st
      by_cases d : q.2 = 1
      · have d' : V.int q.2 = V.int 1 := by rw [d]
        have et : txt q = Str.ofString (toString q.1) := by
          unfold txt
          rw [if_pos d]
        rw [et, ← st] at k
        walk_at "go"
        all_goals try simp only [if_pos c]
        all_goals first | (simp only [la]; omega) | omega | skip
        exact k _ (by walk_at "hpS")
      · have d' : ¬ V.int q.2 = V.int 1 := fun z => d (V.int.inj z)
        have et : txt q = Str.empty ++ Str.ofString (toString q.1) ++ "/" ++ Str.ofString (toString q.2) := by
          unfold txt
          rw [if_neg d]
        rw [et, show Str.empty ++ Str.ofString (toString q.1) = Str.ofString (toString q.1) from by refine TL.ext_tl ?_; rw [TL.tl_append]; rfl, ← st] at k
        walk_at "go"
        all_goals try simp only [if_pos c]
        all_goals first | (simp only [la]; omega) | omega | skip
        exact k _ (by walk_at "hpS")
    · have l3 := len_int (i := q.1) (k := 64) (by decide) (by first | (rw [Int.natAbs_neg]; exact nn) | exact nn)
      rw [if_neg c, if_neg c] at st
      by_cases d : q.2 = 1
      · have d' : V.int q.2 = V.int 1 := by rw [d]
        have et : txt q = Str.ofString (toString q.1) := by
          unfold txt
          rw [if_pos d]
        rw [et, ← st] at k
        walk_at "go"
        all_goals try simp only [if_neg c]
        all_goals first | (simp only [la]; omega) | omega | skip
        exact k _ (by walk_at "hpS")
      · have d' : ¬ V.int q.2 = V.int 1 := fun z => d (V.int.inj z)
        have et : txt q = Str.empty ++ Str.ofString (toString q.1) ++ "/" ++ Str.ofString (toString q.2) := by
          unfold txt
          rw [if_neg d]
        rw [et, show Str.empty ++ Str.ofString (toString q.1) = Str.ofString (toString q.1) from by refine TL.ext_tl ?_; rw [TL.tl_append]; rfl, ← st] at k
        walk_at "go"
        all_goals try simp only [if_neg c]
        all_goals first | (simp only [la]; omega) | omega | skip
        exact k _ (by walk_at "hpS")
end
end Ko


namespace Ko
open PySem L2 PySem.Spec PyProof.Rows Xm
section
variable {H : Hp} {Q : VK} {E : XK} {v x : V} {d : Dt} {q : Pq}
theorem sp_read0 {x : Str} (e : readL (TL.tl x) = none) (h : x.length ≤ 10000) (k : ∀ H', Same H H' → Q .non H') : spRead [.str x] H Q E := ⟨x, rfl, h, fun _ => k, fun q e2 => by rw [e] at e2; cases e2⟩
theorem sp_read1 {x : Str} (e : readL (TL.tl x) = some q) (h : x.length ≤ 10000) (k : Ret H Q q) : spRead [.str x] H Q E := ⟨x, rfl, h, fun e2 => (by rw [e] at e2; cases e2), fun q' e2 => by
  rw [e] at e2
  cases e2
  exact k⟩
end
theorem frac_of {ds : List Dt} (h : Dt.isFrac (.tup ds) = true) : ∃ n m, ds = [.int n, .int m] := by
  unfold Dt.isFrac at h
  split at h
  · rename_i a b e
    cases e
    cases a <;> cases b <;> simp [Dt.isInt] at h
    exact ⟨_, _, rfl⟩
  · cases h
theorem exD_tup {ds : List Dt} (h : Dt.isFrac (.tup ds) = false) : exD (.tup ds) = none := by
  unfold exD
  split
  · rename_i e
    cases e
  · rename_i n d e
    cases e
    simp [Dt.isFrac, Dt.isInt] at h
  · rename_i e
    cases e
  · rfl
theorem g_rise {C : Addr} {H0 H' : Hp} {σ : Sg} {v : V} {i : Nat} {Rz : Value → Prop} {Q : XK} (s : Same H0 H') (h : σ[i]? = some (some v)) (hr : Rz (.ref C)) (k : ∀ dx H2, Same H' H2 → H2 dx = some (exd dx [("value", v)]) → Q (.ref C) (some dx) H2) :
    tRs H0 Rz (tErr C 1 0 (spI C ["value"]) (fun us ws => us ++ ws) (tCons (tVar i) tNil) tNil) σ H' Q := by
  refine ⟨v, h, rfl, rfl, by decide, fun a ha => ⟨a, _, rfl, rfl, upd_same, fun H3 mk => ⟨rfl, ?_⟩⟩⟩
  obtain ⟨a', C', d, e1, e2, e3, e4, e5⟩ := rdV (Q := Q) ha mk hr fun d H2 s2 hd => k d H2 s2 hd
  cases e1
  exact ⟨a, C', d, rfl, e2, fr0_none (s.free ha), e4, e5⟩

local macro_rules | `(tactic| walk_at "hpS") => `(tactic| with_reducible first
  | exact Same.refl _
  | assumption
  | (refine' Same.trans ?hq (same_new (by assumption)); (case hq => walk_at "hpS"))
  | (refine' Same.trans ?hq (by assumption); (case hq => walk_at "hpS"))
  | fail)
local macro_rules | `(tactic| walk_at "hpH") => `(tactic| with_reducible first
  | assumption
  | exact upd_same
  | (refine' same_at (same_new (by assumption)) ?hq; (case hq => walk_at "hpH"))
  | (refine' same_at (by assumption) ?hq; (case hq => walk_at "hpH"))
  | fail)
local macro_rules | `(tactic| walk_at "hpTo") => `(tactic| with_reducible first
  | assumption
  | (refine' sq_t (same_new (by assumption)) ?hq; (case hq => walk_at "hpTo"))
  | (refine' sq_t (by assumption) ?hq; (case hq => walk_at "hpTo"))
  | fail)
local macro_rules | `(tactic| walk_at "hpT") => `(tactic| with_reducible first
  | (refine' SqT.of ?hq; (case hq => walk_at "hpH"))
  | walk_at "hpTo"
  | fail)
local macro_rules | `(tactic| walk_at "hpLo") => `(tactic| with_reducible first
  | assumption
  | (refine' sq_l (same_new (by assumption)) ?hq; (case hq => walk_at "hpLo"))
  | (refine' sq_l (by assumption) ?hq; (case hq => walk_at "hpLo"))
  | fail)
local macro_rules | `(tactic| walk_at "hpL") => `(tactic| with_reducible first
  | (refine' SqL.of ?hq; (case hq => walk_at "hpH"))
  | walk_at "hpLo"
  | fail)
local macro_rules | `(tactic| walk_at "kit") => `(tactic| with_reducible first
  | exact kit_int_bool | exact kit_int_int | exact kit_int_tuple | exact kit_int_list | exact kit_int_str
  | exact kit_tuple_tuple | exact kit_tuple_int | exact kit_tuple_bool | exact kit_tuple_list | exact kit_tuple_str
  | exact kit_bool_bool | exact kit_bool_int | exact kit_bool_tuple | exact kit_bool_list | exact kit_bool_str
  | exact kit_str_str | exact kit_str_int | exact kit_str_bool | exact kit_str_tuple | exact kit_str_list
  | exact kit_NoneType_int | exact kit_NoneType_bool | exact kit_NoneType_tuple | exact kit_NoneType_list | exact kit_NoneType_str
  | exact kit_list_list | exact kit_list_tuple | exact kit_list_int | exact kit_list_bool | exact kit_list_str
  | fail)
local macro_rules | `(tactic| walk_at "call") => `(tactic| fail)
local macro_rules | `(tactic| walk_at "s0") => `(tactic| with_reducible first
  | refine g_seq ?_ | refine g_asg ?_ | refine g_name ?_ | refine g_ifS ?_ | refine g_ret ?_ | refine g_retN ?_ | refine g_next ?_
  | refine g_par ?_ | refine g_parE ?_ | refine g_drop ?_
  | refine g_c ?_ | refine g_op ?_ | refine g_un ?_ | refine g_cb ?_ | refine g_call ?_ | refine g_nil ?_ | refine g_cons ?_ | refine g_tup ?_ | refine g_lst ?_
  | refine g_test ?_ | refine g_B ?_ | refine g_blF ?_ | refine g_and ?_ | refine g_or ?_ | refine g_not ?_ | refine g_andV ?_ | refine g_orV ?_ | refine g_notV ?_ | refine g_if ?_
  | refine iteT ?_ | refine iteF ?_
  | refine g_chain ?_ | refine g_sl ?_ | refine g_noPart ?_ | refine g_part ?_ | refine g_partI ?_ | refine g_slS ?_ ?side | refine g_M1 ?_ | refine g_M1s ?_ | refine g_starts ?_ | refine g_bm ?_ | refine g_bm0 ?_ | refine g_tyS ?_
  | refine g_Fs ?_ | refine g_JsN ?_ | refine g_JsC ?_ | refine g_JsE ?_ ?side | refine g_fmt ?_ | refine g_fmtI ?_ ?side | refine g_fmtS ?_ ?side | refine g_iList ?_ | refine g_iTup ?_ | refine g_iStr ?_ | refine g_iStrE ?_ | refine g_iRng1 ?_ | refine g_iRng1E ?_ ?side1 ?side2 | refine g_yes ?_ | refine g_ckw ?_ | refine g_dget ?_ | refine g_dictZip ?_ | refine g_gCons ?_ | refine g_gNil ?_ | refine g_revL ?_ | refine g_for ?_ | refine g_lc ?_ | refine g_addS ?_ ?side | refine g_str ?_ ?side | refine g_lenS ?_ ?side
  | refine g_rI0 ?_ | refine g_rI ?_ ?side | refine g_rU ?_ | refine g_abs ?_ | refine g_int ?_ | refine g_intB ?_ | refine g_gcd ?_ | refine g_inS ?_ | refine g_isN0 ?_ | refine g_notN0 ?_
  | fail)
local macro_rules | `(tactic| walk_at "s1") => `(tactic| first
  | ((with_reducible refine' g_var ?h ?_); (case h => exact rfl))
  | ((with_reducible refine' g_new ?h ?_); (case h => exact (by simp only [List.length_cons, List.length_nil]; decide)); intro tnew htnew)
  | ((with_reducible refine' iteDT ?h ?_); (case h => first | exact rfl | assumption))
  | ((with_reducible refine' iteNT ?h ?_); (case h => first | exact rfl | assumption))
  | ((with_reducible refine' iteDF ?h ?_); (case h => first | assumption | (intro z; cases z)))
  | ((with_reducible refine' iteNF ?h ?_); (case h => first | assumption | (intro z; cases z)))
  | ((with_reducible refine' g_eq ?_ ?h); (case h => exact rfl))
  | ((with_reducible refine' g_ne ?_ ?h); (case h => exact rfl))
  | ((with_reducible refine' g_ixT ?_ ?h ?e); (case h => walk_at "hpT"); (case e => first | exact rfl | exact atI_0 | exact atI_1))
  | ((with_reducible refine' g_ixL ?_ ?h ?e); (case h => walk_at "hpL"); (case e => first | exact rfl | exact atI_0 | exact atI_1))
  | ((with_reducible refine' g_isi_int ?_ ?h); (case h => walk_at "kit"))
  | ((with_reducible refine' g_isi_str ?_ ?h); (case h => walk_at "kit"))
  | ((with_reducible refine' g_isi_bl ?_ ?h); (case h => walk_at "kit"))
  | ((with_reducible refine' g_isi_non ?_ ?h); (case h => walk_at "kit"))
  | ((with_reducible refine' g_isi_t ?_ ?t ?h); (case t => walk_at "hpT"); (case h => walk_at "kit"))
  | ((with_reducible refine' g_isi_l ?_ ?t ?h ?l); (case l => walk_at "hpH"); (case t => walk_at "hpL"); (case h => walk_at "kit"))
  | ((with_reducible refine' g_lenT ?_ ?h); (case h => walk_at "hpT"))
  | ((with_reducible refine' g_lenL ?_ ?h); (case h => walk_at "hpL"))
  | ((with_reducible refine' g_split ?_ ?h ?side); (case h => exact rfl); intro pnew hpnew)
  | ((with_reducible refine' g_slL ?h ?_); (case h => walk_at "hpL"); intro pnew hpnew)
  | ((with_reducible refine' g_iListE ?_ ?h); (case h => walk_at "hpL"))
  | ((with_reducible refine' g_iTupE ?_ ?h); (case h => walk_at "hpT"))
  | ((with_reducible refine' g_tyL ?_ ?h); (case h => walk_at "hpL"))
  | ((with_reducible refine' g_join ?_ ?h ?side); (case h => walk_at "hpL"))
  | ((with_reducible refine' g_append ?_ ?h ?side); (case h => walk_at "hpH"))
  | ((with_reducible refine' g_all ?_ ?h); (case h => walk_at "hpL"))
  | ((with_reducible refine' g_gTup ?_ ?h ?n); (case h => walk_at "hpT"); (case n => exact rfl))
  | ((with_reducible refine' g_revLE ?h ?_); (case h => walk_at "hpL"); intro pnew hpnew)
  | ((with_reducible refine' g_isN1 ?_ ?h); (case h => first | assumption | (intro z; cases z)))
  | ((with_reducible refine' g_notN1 ?_ ?h); (case h => first | assumption | (intro z; cases z)))
  | walk_at "call"
  | ((with_reducible refine' iteBT ?h ?_); (case h => first | assumption | exact rfl))
  | ((with_reducible refine' iteBF ?h ?_); (case h => first | assumption | exact rfl))
  | fail)
local macro_rules | `(tactic| walk_at "nrm") => `(tactic| simp only [Bool.not_true, Bool.not_false, decide_eq_true_eq, decide_true, decide_false, Bool.true_and, Bool.false_and, Bool.and_true, Bool.and_false, V.int.injEq, V.bl.injEq, V.str.injEq, List.length_cons, List.length_nil, Bool.not_eq_true', decide_eq_false_iff_not, Int.not_lt, Int.not_le, reduceCtorEq, not_false_eq_true, not_true_eq_false, Decidable.not_not] at *)
local macro_rules | `(tactic| walk_at "sp") => `(tactic| ((with_reducible refine ite2 (fun c => ?_) (fun c => ?_)) <;> (try simp only [decide_eq_true_eq, Bool.not_eq_true', decide_eq_false_iff_not, V.int.injEq, V.bl.injEq, V.str.injEq, Int.not_lt, Int.not_le, reduceCtorEq, Decidable.not_not, Bool.false_eq_true, Bool.true_eq_false] at c) <;> (try (exfalso; omega))))
local macro_rules | `(tactic| walk_at "s") => `(tactic| first | walk_at "s0" | walk_at "s1" | fail)
local macro_rules | `(tactic| walk_at "go") => `(tactic| (try dsimp only [cxK, cxK']); repeat' walk_at "s")
local macro_rules | `(tactic| walk_at "gos") => `(tactic| ((try dsimp only [cxK, cxK']); repeat' (first | walk_at "s" | walk_at "sp" | fail)))

local macro_rules | `(tactic| walk_at "hpNo") => `(tactic| with_reducible first
  | assumption
  | (refine' Nm.ofPr ?hq; (case hq => assumption))
  | (refine' Nm.same (same_new (by assumption)) ?hq; (case hq => walk_at "hpNo"))
  | (refine' Nm.same (by assumption) ?hq; (case hq => walk_at "hpNo"))
  | fail)
local macro_rules | `(tactic| walk_at "hpN") => `(tactic| with_reducible first
  | walk_at "hpNo"
  | (refine' Nm.of ?hq; (case hq => walk_at "hpH"))
  | fail)
local macro_rules | `(tactic| walk_at "hpPo") => `(tactic| with_reducible first
  | assumption
  | (refine' Pr.same (same_new (by assumption)) ?hq; (case hq => walk_at "hpPo"))
  | (refine' Pr.same (by assumption) ?hq; (case hq => walk_at "hpPo"))
  | fail)
local macro_rules | `(tactic| walk_at "hpP") => `(tactic| with_reducible first
  | walk_at "hpPo"
  | (refine' Pr.of ?hq; (case hq => walk_at "hpH"))
  | fail)
local macro_rules | `(tactic| walk_at "hpDo") => `(tactic| with_reducible first
  | assumption
  | exact Dq.int _ | exact Dq.bl _ | exact Dq.str _ | exact Dq.non
  | (refine' Dq.same (same_new (by assumption)) ?hq; (case hq => walk_at "hpDo"))
  | (refine' Dq.same (by assumption) ?hq; (case hq => walk_at "hpDo"))
  | fail)
local macro_rules | `(tactic| walk_at "hpD") => `(tactic| with_reducible first
  | walk_at "hpDo"
  | fail)

local macro_rules | `(tactic| walk_at "call") => `(tactic| first
  | ((with_reducible refine' sp_pair ?h ?_); (case h => walk_at "hpN"); intro tp Hp' sp' hp')
  | ((with_reducible refine' sp_reduced ?_ ?side1 ?side2); intro tp Hp' sp' hp')
  | ((with_reducible refine' sp_whole ?h ?_); (case h => walk_at "hpD"))
  | ((with_reducible refine' sp_frac ?h ?_); (case h => walk_at "hpD"))
  | ((with_reducible refine' sp_read0 ?e ?h ?_); (case e => assumption); (case h => assumption); intro Hw' sw')
  | ((with_reducible refine' sp_read1 ?e ?h ?_); (case e => assumption); (case h => assumption); intro tp Hp' sp' hp')
  | fail)
section
variable {P : Program} {w : World} {K : Fg} {mg : Str → Option Value} {base : Heap} {R C f f1 f2 f3 f4 : Addr} {fd : FuncData}
theorem ok_exact (F : Fun K "exact" "exact" s_exact f fd) (T : Blt mg) (D_is_whole : Df P w K mg base 1 "is_whole" f1 ["value"] spWhole) (D_is_fraction : Df P w K mg base 2 "is_fraction" f2 ["value"] spFrac)
    (D_reduced : Df P w K mg base 1 "reduced" f3 ["n", "d"] spReduced) (D_read_number : Df P w K mg base 2 "read_number" f4 ["text"] spRead) : FnOk P w K mg base CX0 3 f fd ["value"] spExact := by
  obtain ⟨_, G_is_whole, B_is_whole⟩ := D_is_whole.ok
  obtain ⟨_, G_is_fraction, B_is_fraction⟩ := D_is_fraction.ok
  obtain ⟨_, G_reduced, B_reduced⟩ := D_reduced.ok
  obtain ⟨_, G_read_number, B_read_number⟩ := D_read_number.ok
  refine F.ok sc_exact (fun vs H Q E h => ?_) (fun cdv A outer s H vs Q E hr h => ?_)
  · obtain ⟨v, d, q, rfl, _⟩ := h
    rfl
  · obtain ⟨v, d, q, rfl, hv, ho, he, k⟩ := h
    refine ⟨_, (pss_cons (ps_if (pt_val (pe_call G_is_whole (hr.mono (by decide)) (by rfl) D_is_whole.g D_is_whole.kp B_is_whole .nil pass0 (pa_cons (pv 0) pa_nil)))
      (pss_one (ps_ret (pe_tup (pa_cons (pv 0) (pa_cons pe_int pa_nil))))) pss_nil)
      (pss_cons (ps_if (PW.pt (pw_and (pt_val (pe_call G_is_fraction (hr.mono (by decide)) (by rfl) D_is_fraction.g D_is_fraction.kp B_is_fraction .nil pass0 (pa_cons (pv 0) pa_nil))) (pw_and1 (pt_cmpR op_ne (pe_ix (ix_seqK K) (pv 0) pe_int (fun _ _ => rfl)) pe_int (nomark _)))))
      (pss_one (ps_ret (pe_call G_reduced (hr.mono (by decide)) (by rfl) D_reduced.g D_reduced.kp B_reduced .nil pass0 (pa_cons (pe_ix (ix_seqK K) (pv 0) pe_int (fun _ _ => rfl)) (pa_cons (pe_ix (ix_seqK K) (pv 0) pe_int (fun _ _ => rfl)) pa_nil))))) pss_nil)
      (pss_cons (ps_if (pt_val (pe_callB (cg_isiK K) (by rfl) T.n_isinstance (by decide +kernel) (pa_cons (pv 0) (pa_cons (pe_bltn (v := .ty "str") (by rfl) T.n_str (by decide +kernel) rfl) pa_nil))))
      (pss_cons (ps_set (i := 1) sc_exact.nd rfl (.inl rfl) (pe_call G_read_number (hr.mono (by decide)) (by rfl) D_read_number.g D_read_number.kp B_read_number .nil pass0 (pa_cons (pv 0) pa_nil)))
      (pss_one (ps_if (pt_cmpR og_notN (pv 1) pe_non (nomark _))
      (pss_one (ps_ret (pv 1))) pss_nil))) pss_nil)
      (pss_one ps_never)))), ?_⟩
    have hv' := hv
    cases hv with
    | int i =>
      cases he
      walk_at "go"
      refine k _ _ ?_ ?_
      · walk_at "hpS"
      · exact upd_same
    | @tup a xs ds ha hd =>
      cases hf : Dt.isFrac (.tup ds) with
      | false =>
        rw [exD_tup hf] at he
        cases he
      | true =>
        obtain ⟨n, m, rfl⟩ := frac_of hf
        match xs, hd with
        | [_, _], .cons (.int _) (.cons (.int _) .nil) =>
          have he' : (if m = 0 then none else some (red n m)) = some q := he
          by_cases z : m = 0
          · rw [if_pos z] at he'
            cases he'
          · rw [if_neg z] at he'
            cases he'
            have z' : ¬ V.int m = V.int 0 := fun y => z (V.int.inj y)
            have ho' : m.natAbs < 2 ^ 8900 := ho
            walk_at "go"
            all_goals first
              | exact ho'
              | exact z
              | skip
            exact k _ _ (by assumption) (by assumption)
    | str x =>
      have he' : readL (TL.tl x) = some q := he
      have ho' : x.length ≤ 10000 := ho
      walk_at "go"
      exact k _ _ (by assumption) (by assumption)
    | _ => cases he
theorem ok_exactX (F : Fun K "exact" "exact" s_exact f fd) (T : Blt mg) (Z : Bn P w K mg base R C) (D_is_whole : Df P w K mg base 1 "is_whole" f1 ["value"] spWhole) (D_is_fraction : Df P w K mg base 2 "is_fraction" f2 ["value"] spFrac)
    (D_reduced : Df P w K mg base 1 "reduced" f3 ["n", "d"] spReduced) (D_read_number : Df P w K mg base 2 "read_number" f4 ["text"] spRead) : FnOk P w K mg base (L2.CX P w) 3 f fd ["value"] (spExactX C) := by
  obtain ⟨_, G_is_whole, B_is_whole⟩ := D_is_whole.ok
  obtain ⟨_, G_is_fraction, B_is_fraction⟩ := D_is_fraction.ok
  obtain ⟨_, G_reduced, B_reduced⟩ := D_reduced.ok
  obtain ⟨_, G_read_number, B_read_number⟩ := D_read_number.ok
  obtain ⟨_, _, M_BadNumber, F_BadNumber, BP_BadNumber, _⟩ := Z.m
  refine F.okX sc_exact (fun vs H Q E h => ?_) (fun cdv A outer s H vs Q E hr h => ?_)
  · obtain ⟨v, d, rfl, _⟩ := h
    rfl
  · obtain ⟨v, d, rfl, hv, ho, he, k⟩ := h
    have hr1 := hr.mono (show 2 ≤ 2 by decide)
    refine ⟨_, (pss_cons (ps_if (pt_val (pe_call G_is_whole (hr.mono (by decide)) (by rfl) D_is_whole.g D_is_whole.kp B_is_whole .nil pass0 (pa_cons (pv 0) pa_nil)))
      (pss_one (ps_ret (pe_tup (pa_cons (pv 0) (pa_cons pe_int pa_nil))))) pss_nil)
      (pss_cons (ps_if (PW.pt (pw_and (pt_val (pe_call G_is_fraction (hr.mono (by decide)) (by rfl) D_is_fraction.g D_is_fraction.kp B_is_fraction .nil pass0 (pa_cons (pv 0) pa_nil))) (pw_and1 (pt_cmpR op_ne (pe_ix (ix_seqK K) (pv 0) pe_int (fun _ _ => rfl)) pe_int (nomark _)))))
      (pss_one (ps_ret (pe_call G_reduced (hr.mono (by decide)) (by rfl) D_reduced.g D_reduced.kp B_reduced .nil pass0 (pa_cons (pe_ix (ix_seqK K) (pv 0) pe_int (fun _ _ => rfl)) (pa_cons (pe_ix (ix_seqK K) (pv 0) pe_int (fun _ _ => rfl)) pa_nil))))) pss_nil)
      (pss_cons (ps_if (pt_val (pe_callB (cg_isiK K) (by rfl) T.n_isinstance (by decide +kernel) (pa_cons (pv 0) (pa_cons (pe_bltn (v := .ty "str") (by rfl) T.n_str (by decide +kernel) rfl) pa_nil))))
      (pss_cons (ps_set (i := 1) sc_exact.nd rfl (.inl rfl) (pe_call G_read_number (hr.mono (by decide)) (by rfl) D_read_number.g D_read_number.kp B_read_number .nil pass0 (pa_cons (pv 0) pa_nil)))
      (pss_one (ps_if (pt_cmpR og_notN (pv 1) pe_non (nomark _))
      (pss_one (ps_ret (pv 1))) pss_nil))) pss_nil)
      (pss_one (ps_raise rfl (takes_of rfl rfl rfl rfl) (pmk_err rfl (pe_errP M_BadNumber F_BadNumber hr1 (by rfl) Z.e.g BP_BadNumber (pa_cons (pv 0) pa_nil)))))))), ?_⟩
    have hv' := hv
    have fin := fun {H' : Hp} {σ : Sg} {Rz : Value → Prop} (s : Same H H') (h0 : σ[0]? = some (some v)) (hr : Rz (.ref C)) => g_rise (Q := E) s h0 hr fun dx H2 s2 hd => k dx H2 (s.trans s2) hd
    have rz : Raises (cxOf (CX P w) P w K mg base ["value", "number"] "exact" (defScope s_exact) f cdv A outer s H E) (.ref C) := raises_own Z.e.oex.exC Z.e.oex.tyC
    cases hv with
    | int i => cases he
    | @tup a xs ds ha hd =>
      cases hf : Dt.isFrac (.tup ds) with
      | false =>
        walk_at "go"
        exact fin (Same.refl _) rfl rz
      | true =>
        obtain ⟨n, m, rfl⟩ := frac_of hf
        match xs, hd with
        | [_, _], .cons (.int _) (.cons (.int _) .nil) =>
          have he' : (if m = 0 then none else some (red n m)) = (none : Option Pq) := he
          by_cases z : m = 0
          · have z' : V.int m = V.int 0 := by rw [z]
            walk_at "go"
            exact fin (Same.refl _) rfl rz
          · rw [if_neg z] at he'
            cases he'
    | str x =>
      have he' : readL (TL.tl x) = none := he
      have ho' : x.length ≤ 10000 := ho
      walk_at "go"
      exact fin (by assumption) rfl rz
    | _ =>
      walk_at "go"
      exact fin (Same.refl _) rfl rz
theorem ok_over (F : Fun K "over" "over" s_over f fd) (T : Blt mg) (D_pair : Df P w K mg base 1 "pair" f1 ["a"] spPair) (D_reduced : Df P w K mg base 1 "reduced" f2 ["n", "d"] spReduced) : FnOk P w K mg base CX0 2 f fd ["a", "b"] spOver := by
  obtain ⟨_, G_pair, B_pair⟩ := D_pair.ok
  obtain ⟨_, G_reduced, B_reduced⟩ := D_reduced.ok
  refine F.ok sc_over (fun vs H Q E h => ?_) (fun cdv A outer s H vs Q E hr h => ?_)
  · obtain ⟨x, y, p, q, rfl, _⟩ := h
    rfl
  · obtain ⟨x, y, p, q, rfl, hx, hy, lp, lq, hn, ⟨sp1, sp2⟩, ⟨sq1, sq2⟩, k⟩ := h
    refine ⟨_, (pss_cons (ps_par (i := 0) (j := 1) rfl sc_over.nd rfl rfl (by decide) rfl rfl (pa_cons (pe_call G_pair (hr.mono (by decide)) (by rfl) D_pair.g D_pair.kp B_pair .nil pass0 (pa_cons (pv 0) pa_nil)) (pa_cons (pe_call G_pair (hr.mono (by decide)) (by rfl) D_pair.g D_pair.kp B_pair .nil pass0 (pa_cons (pv 1) pa_nil)) pa_nil)) rfl)
      (pss_cons (ps_if (pt_cmpR op_eq (pe_ix (ix_seqK K) (pv 1) pe_int (fun _ _ => rfl)) pe_int (nomark _))
      (pss_one ps_never) pss_nil)
      (pss_one (ps_ret (pe_call G_reduced (hr.mono (by decide)) (by rfl) D_reduced.g D_reduced.kp B_reduced .nil pass0 (pa_cons (pe_op op_mulW (pe_ix (ix_seqK K) (pv 0) pe_int (fun _ _ => rfl)) (pe_ix (ix_seqK K) (pv 1) pe_int (fun _ _ => rfl))) (pa_cons (pe_op op_mulW (pe_ix (ix_seqK K) (pv 0) pe_int (fun _ _ => rfl)) (pe_ix (ix_seqK K) (pv 1) pe_int (fun _ _ => rfl))) pa_nil))))))), ?_⟩
    have z' : ¬ V.int q.1 = V.int 0 := fun y => hn (V.int.inj y)
    walk_at "go"
    all_goals first
      | exact sz_mul (by assumption) (by assumption)
      | exact sz_mulD (by assumption) (by assumption)
      | exact Int.mul_ne_zero (Int.ne_of_gt lp.1) hn
      | skip
    rename_i Hl sl hl
    exact k _ _ (by walk_at "hpS") hl
theorem ok_overX (F : Fun K "over" "over" s_over f fd) (T : Blt mg) (Z : Bn P w K mg base R C) (D_pair : Df P w K mg base 1 "pair" f1 ["a"] spPair) (D_reduced : Df P w K mg base 1 "reduced" f2 ["n", "d"] spReduced) : FnOk P w K mg base (L2.CX P w) 3 f fd ["a", "b"] (spOverX C) := by
  obtain ⟨_, G_pair, B_pair⟩ := D_pair.ok
  obtain ⟨_, G_reduced, B_reduced⟩ := D_reduced.ok
  obtain ⟨_, _, M_BadNumber, F_BadNumber, BP_BadNumber, _⟩ := Z.m
  refine F.okX sc_over (fun vs H Q E h => ?_) (fun cdv A outer s H vs Q E hr h => ?_)
  · obtain ⟨x, y, p, q, rfl, _⟩ := h
    rfl
  · obtain ⟨x, y, p, q, rfl, hx, hy, hq, k⟩ := h
    have hr1 := hr.mono (show 2 ≤ 2 by decide)
    refine ⟨_, (pss_cons (ps_par (i := 0) (j := 1) rfl sc_over.nd rfl rfl (by decide) rfl rfl (pa_cons (pe_call G_pair (hr.mono (by decide)) (by rfl) D_pair.g D_pair.kp B_pair .nil pass0 (pa_cons (pv 0) pa_nil)) (pa_cons (pe_call G_pair (hr.mono (by decide)) (by rfl) D_pair.g D_pair.kp B_pair .nil pass0 (pa_cons (pv 1) pa_nil)) pa_nil)) rfl)
      (pss_cons (ps_if (pt_cmpR op_eq (pe_ix (ix_seqK K) (pv 1) pe_int (fun _ _ => rfl)) pe_int (nomark _))
      (pss_one (ps_raise rfl (takes_of rfl rfl rfl rfl) (pmk_err rfl (pe_errP M_BadNumber F_BadNumber hr1 (by rfl) Z.e.g BP_BadNumber (pa_cons (pv 1) pa_nil))))) pss_nil)
      (pss_one (ps_ret (pe_call G_reduced (hr.mono (by decide)) (by rfl) D_reduced.g D_reduced.kp B_reduced .nil pass0 (pa_cons (pe_op op_mulW (pe_ix (ix_seqK K) (pv 0) pe_int (fun _ _ => rfl)) (pe_ix (ix_seqK K) (pv 1) pe_int (fun _ _ => rfl))) (pa_cons (pe_op op_mulW (pe_ix (ix_seqK K) (pv 0) pe_int (fun _ _ => rfl)) (pe_ix (ix_seqK K) (pv 1) pe_int (fun _ _ => rfl))) pa_nil))))))), ?_⟩
    have rz : Raises (cxOf (CX P w) P w K mg base ["a", "b"] "over" (defScope s_over) f cdv A outer s H E) (.ref C) := raises_own Z.e.oex.exC Z.e.oex.tyC
    have z' : V.int q.1 = V.int 0 := by rw [hq]
    walk_at "go"
    rename_i t1 H1 s1 h1 t2 H2 s2 h2
    refine g_rise (Q := E) (s1.trans s2) rfl rz fun dx H3 s3 hd => ?_
    exact k t2 dx H3 ((s1.trans s2).trans s3) (s3 _ _ h2) hd
end
end Ko


namespace Ko
open PySem L2 PySem.Spec PyProof.Rows Xm
open C8 (pss_cut tCut)
/-- a number from 0 up, below m; the bag is a bag still -/
def spDraw : Sp := fun vs H Q _ => ∃ (b c : Addr) (m : Int), vs = [.ref b, .int m] ∧ 0 < m ∧ m < 1073741824 ∧ Bag H b c ∧ ∀ i H', 0 ≤ i → i < m → Kp b c H H' → Q (.int i) H'
/-- the bag is written -/
theorem put_bag {Qn : Hp → Prop} {H0 H : Hp} {b cs : Addr} {ns : List Int} {at_ gr sd ct : Int} {L : List V} (k : Kp b cs H0 H) (hc : cs ≠ b) (h2 : H cs = some (.lst (ns.map V.int)))
    (e : L = [.ref cs, .int at_, .int gr, .int sd, .int ct]) (a0 : 0 ≤ at_) (g0 : 0 ≤ gr) (s0 : 0 ≤ sd) (s1 : sd < 2147483563)
    (q : ∀ H1 : Hp, H1 b = some (.lst [.ref cs, .int at_, .int gr, .int sd, .int ct]) → H1 cs = some (.lst (ns.map V.int)) → Kp b cs H0 H1 → Qn H1) : Qn (upd H b (.lst L)) := by
  subst e
  have e1 : upd H b (.lst [.ref cs, .int at_, .int gr, .int sd, .int ct]) b = some (.lst [.ref cs, .int at_, .int gr, .int sd, .int ct]) := upd_same
  have e2 : upd H b (.lst [.ref cs, .int at_, .int gr, .int sd, .int ct]) cs = some (.lst (ns.map V.int)) := by
    rw [upd_ne hc]
    exact h2
  refine q _ e1 e2 ⟨fun a o h x => ?_, hc, ns, at_, gr, sd, ct, e1, e2, a0, g0, s0, s1⟩
  rw [upd_ne h]
  exact k.1 a o h x
theorem dec_zero {i : Int} : decide (V.int i = V.int 0) = decide (i = 0) := by
  by_cases h : i = 0
  · subst h
    rfl
  · rw [decide_eq_false h, decide_eq_false (fun z => h (V.int.inj z))]
section
variable {P : Program} {w : World} {K : PySem.W.Frag} {mg : Str → Option Value} {base : Heap} {f : Addr} {fd : FuncData}
theorem ok_draw (F : Fun K "_law_draw" "_law_draw" s_l_draw f fd) (T : Blt mg) : FnOk P w K mg base CX0 1 f fd ["_law_bag_here", "_law_many"] spDraw := by
  refine F.ok sc_l_draw (fun vs H Q E h => ?_) (fun cdv A outer s H vs Q E hr h => ?_)
  · obtain ⟨b, c, m, rfl, _⟩ := h
    rfl
  · obtain ⟨b, cs, m, rfl, m0, m1, B0, q⟩ := h
    have k0 := Kp.refl B0
    obtain ⟨hne, ns, at_, gr, sd, ct, hb, hcs, a0, g0, s0, s1⟩ := B0
    refine ⟨_, (pss_cons (ps_asg (pe_op op_add (pe_ix ix_list (pv 0) pe_int (fun _ _ => rfl)) pe_int) (pg_sub (pv 0) pe_int set_list))
      (pss_cut (ps_if (PW.pt (pw_and (pt_cmpR op_eq (pe_ix ix_list (pv 0) pe_int (fun _ _ => rfl)) pe_int (nomark _)) (pw_and1 (pt_cmpR op_lt (pe_ix ix_list (pv 0) pe_int (fun _ _ => rfl)) (pe_callB call_len_seq (by rfl) T.n_len PySem.boot_len (pa_cons (pe_ix ix_list (pv 0) pe_int (fun _ _ => rfl)) pa_nil)) (nomark _)))))
      (pss_cons (ps_set (i := 2) sc_l_draw.nd rfl (.inl rfl) (pe_ix ix_list (pe_ix ix_list (pv 0) pe_int (fun _ _ => rfl)) (pe_ix ix_list (pv 0) pe_int (fun _ _ => rfl)) (fun _ _ => rfl)))
      (pss_cons (ps_asg (pe_op op_add (pe_ix ix_list (pv 0) pe_int (fun _ _ => rfl)) pe_int) (pg_sub (pv 0) pe_int set_list))
      (pss_one (ps_if (pt_cmpR op_ge (pv 2) (pe_op op_pow pe_int pe_int) (nomark _))
      (pss_one (ps_asg (pv 2) (pg_sub (pv 0) pe_int set_list))) (pss_one (ps_asg (pe_op op_mod (pe_callTy call_int1 (by rfl) T.n_int (by decide +kernel) (pa_cons (pe_op op_add (pe_op op_add (pe_op op_mul (pe_ix ix_list (pv 0) pe_int (fun _ _ => rfl)) pe_int) (pe_op op_mul (pe_op op_mod (pe_callTy call_int1 (by rfl) T.n_int (by decide +kernel) (pa_cons (pv 2) pa_nil)) pe_int) pe_int)) pe_int) pa_nil)) pe_int) (pg_sub (pv 0) pe_int set_list))))))) pss_nil)
      (pss_cons (ps_if (pt_cmpR op_gt (pe_ix ix_list (pv 0) pe_int (fun _ _ => rfl)) pe_int (nomark _))
      (pss_cons (ps_set (i := 3) sc_l_draw.nd rfl (.inl rfl) (pe_op op_mod (pe_callTy call_int1 (by rfl) T.n_int (by decide +kernel) (pa_cons (pe_ix ix_list (pv 0) pe_int (fun _ _ => rfl)) pa_nil)) (pv 1)))
      (pss_cons (ps_asg (pe_op op_fdiv (pe_ix ix_list (pv 0) pe_int (fun _ _ => rfl)) (pv 1)) (pg_sub (pv 0) pe_int set_list))
      (pss_one (ps_ret (pv 3))))) pss_nil)
      (pss_cons (ps_set (i := 4) sc_l_draw.nd rfl (.inl rfl) (pe_ix ix_list (pv 0) pe_int (fun _ _ => rfl)))
      (pss_cons (ps_asg (pe_op op_mod (pe_callTy call_int1 (by rfl) T.n_int (by decide +kernel) (pa_cons (pe_op op_add (pe_op op_add (pe_op op_add (pe_op op_mul (pe_op op_mul (pv 4) (pv 4)) pe_int) (pe_op op_mul (pv 4) pe_int)) (pe_op op_mul (pe_ix ix_list (pv 0) pe_int (fun _ _ => rfl)) pe_int)) pe_int) pa_nil)) pe_int) (pg_sub (pv 0) pe_int set_list))
      (pss_one (ps_ret (pe_op op_mod (pe_callTy call_int1 (by rfl) T.n_int (by decide +kernel) (pa_cons (pe_op op_add (pe_op op_fdiv (pe_ix ix_list (pv 0) pe_int (fun _ _ => rfl)) pe_int) (pe_op op_mul (pe_op op_mod (pe_callTy call_int1 (by rfl) T.n_int (by decide +kernel) (pa_cons (pe_ix ix_list (pv 0) pe_int (fun _ _ => rfl)) pa_nil)) pe_int) pe_int)) pa_nil)) (pv 1))))))))), ?_⟩
    refine ⟨_, rfl, b, _, 4, .int ct, rfl, rfl, SqL.of hb, rfl, _, _, rfl, rfl, _, rfl, b, _, 4, 4, rfl, rfl, hb, rfl, ?_⟩
    refine put_bag (at_ := at_) (gr := gr) (sd := sd) (ct := ct + 1) k0 hne hcs rfl a0 g0 s0 s1 fun H1 h1 c1 k1 => ?_
    refine ⟨fun σ' H' => (∃ x2, σ' = [some (.ref b), some (.int m), x2, none, none]) ∧ Kp b cs H H', ?_, ?_⟩
    · refine ⟨_, rfl, b, _, 2, .int gr, rfl, rfl, SqL.of h1, rfl, rfl, _, rfl, ?_⟩
      rw [dec_zero]
      refine ite2 (fun c => ?_) (fun c => iteF ⟨⟨none, rfl⟩, k1⟩)
      refine ⟨_, rfl, b, _, 1, .int at_, rfl, rfl, SqL.of h1, rfl, _, rfl, b, _, 0, .ref cs, rfl, rfl, SqL.of h1, rfl, cs, _, rfl, .inl (SqL.of c1), _, _, rfl, rfl, _, rfl, ?_⟩
      refine ite2 (fun c2 => ?_) (fun c2 => ⟨⟨none, rfl⟩, k1⟩)
      have lt : at_ < ((ns.map V.int).length : Int) := of_decide_eq_true c2
      rw [List.length_map] at lt
      obtain ⟨z, hz⟩ : ∃ z, ns[at_.toNat]? = some z := ⟨_, List.getElem?_eq_getElem (by omega)⟩
      have hat : atI (ns.map V.int) at_ = some (V.int z) := by
        have e : at_ = ((at_.toNat : Nat) : Int) := by omega
        rw [e]
        refine atI_nat ?_
        rw [List.getElem?_map, hz]
        rfl
      refine ⟨_, rfl, b, _, 0, .ref cs, rfl, rfl, SqL.of h1, rfl, _, rfl, b, _, 1, .int at_, rfl, rfl, SqL.of h1, rfl, cs, _, at_, .int z, rfl, rfl, SqL.of c1, hat, ?_⟩
      refine ⟨_, rfl, b, _, 1, .int at_, rfl, rfl, SqL.of h1, rfl, _, _, rfl, rfl, _, rfl, b, _, 1, 1, rfl, rfl, h1, rfl, ?_⟩
      refine put_bag (at_ := at_ + 1) (gr := gr) (sd := sd) (ct := ct + 1) k1 hne c1 rfl (by omega) g0 s0 s1 fun H2 h2 c2 k2 => ?_
      refine ⟨_, rfl, _, _, rfl, rfl, ⟨by decide, by decide, by decide⟩, z, _, rfl, rfl, _, rfl, ?_⟩
      refine ite2 (fun c3 => ?_) (fun c3 => ?_)
      · have big : (10 : Int) ^ (18 : Int).toNat ≤ z := of_decide_eq_true c3
        have pos : (0 : Int) ≤ 10 ^ (18 : Int).toNat := by decide
        refine ⟨_, rfl, _, rfl, b, _, 2, 2, rfl, rfl, h2, rfl, ?_⟩
        refine put_bag (at_ := at_ + 1) (gr := z) (sd := sd) (ct := ct + 1) k2 hne c2 rfl (by omega) (by omega) s0 s1 fun H3 h3 c3 k3 => ?_
        exact ⟨⟨_, rfl⟩, k3⟩
      · have y0 := Int.emod_nonneg z (b := 2147483423) (by decide)
        have y1 := Int.emod_lt_of_pos z (b := 2147483423) (by decide)
        refine ⟨_, rfl, b, _, 3, .int sd, rfl, rfl, SqL.of h2, rfl, _, _, rfl, rfl, .inl ⟨by omega, by omega⟩, _, rfl, .inl ⟨_, rfl, ?_⟩⟩
        refine ⟨_, _, rfl, rfl, by show (0 : Int) < _; decide, _, _, rfl, rfl, .inl ⟨by omega, by omega⟩, _, _, rfl, rfl, _, _, rfl, rfl, .inl ⟨_, rfl, ?_⟩⟩
        refine ⟨_, _, rfl, rfl, by show (0 : Int) < _; decide, _, rfl, b, _, 3, 3, rfl, rfl, h2, rfl, ?_⟩
        refine put_bag (at_ := at_ + 1) (gr := gr) (ct := ct + 1) k2 hne c2 rfl (by omega) g0 (Int.emod_nonneg _ (by decide)) (Int.emod_lt_of_pos _ (by decide)) fun H3 h3 c3 k3 => ?_
        exact ⟨⟨_, rfl⟩, k3⟩
    · rintro σ' H2 ⟨⟨x2, rfl⟩, k2⟩
      obtain ⟨hne, ns, at_, gr, sd, ct, h2, c2, a0, g0, s0, s1⟩ := k2.2
      refine ⟨_, rfl, b, _, 2, .int gr, rfl, rfl, SqL.of h2, rfl, _, _, rfl, rfl, _, rfl, ?_⟩
      refine ite2 (fun c => ?_) (fun c => ?_)
      · have pos : 0 < gr := of_decide_eq_true c
        refine ⟨_, rfl, b, _, 2, .int gr, rfl, rfl, SqL.of h2, rfl, .inl ⟨_, rfl, ?_⟩⟩
        refine ⟨_, rfl, _, _, rfl, rfl, m0, ?_⟩
        refine ⟨_, rfl, b, _, 2, .int gr, rfl, rfl, SqL.of h2, rfl, _, rfl, _, _, rfl, rfl, ⟨m0, m1⟩, _, rfl, b, _, 2, 2, rfl, rfl, h2, rfl, ?_⟩
        refine put_bag (at_ := at_) (gr := gr / m) (sd := sd) (ct := ct) k2 hne c2 rfl a0 (Int.ediv_nonneg g0 (by omega)) s0 s1 fun H3 h3 c3 k3 => ?_
        exact ⟨_, rfl, q _ _ (Int.emod_nonneg _ (by omega)) (Int.emod_lt_of_pos _ m0) k3⟩
      · refine ⟨_, rfl, b, _, 3, .int sd, rfl, rfl, SqL.of h2, rfl, ?_⟩
        refine ⟨_, rfl, _, rfl, _, _, rfl, rfl, .inl ⟨by omega, by omega⟩, _, _, rfl, rfl, .inr ⟨by decide, by decide⟩, _, rfl, _, _, rfl, rfl, .inl ⟨by omega, by omega⟩, _, _, rfl, rfl, ?_⟩
        refine ⟨_, rfl, b, _, 4, .int ct, rfl, rfl, SqL.of h2, rfl, _, _, rfl, rfl, .inr ⟨by decide, by decide⟩, _, _, rfl, rfl, _, _, rfl, rfl, .inl ⟨_, rfl, ?_⟩⟩
        refine ⟨_, _, rfl, rfl, by show (0 : Int) < _; decide, _, rfl, b, _, 3, 3, rfl, rfl, h2, rfl, ?_⟩
        have e0 := Int.emod_nonneg (sd * sd * 11 + sd * 42013 + ct * 1299721 + 50021) (b := 2147483563) (by decide)
        have e1 := Int.emod_lt_of_pos (sd * sd * 11 + sd * 42013 + ct * 1299721 + 50021) (b := 2147483563) (by decide)
        refine put_bag (at_ := at_) (gr := gr) (ct := ct) k2 hne c2 rfl a0 g0 e0 e1 fun H3 h3 c3 k3 => ?_
        generalize (sd * sd * 11 + sd * 42013 + ct * 1299721 + 50021) % 2147483563 = sq at h3
        refine ⟨_, rfl, b, _, 3, .int sq, rfl, rfl, SqL.of h3, rfl, _, _, rfl, rfl, ⟨by decide, by decide⟩, ?_⟩
        have w0 := Int.emod_nonneg sq (b := 7919) (by decide)
        have w1 := Int.emod_lt_of_pos sq (b := 7919) (by decide)
        refine ⟨_, rfl, b, _, 3, .int sq, rfl, rfl, SqL.of h3, rfl, .inl ⟨_, rfl, ?_⟩⟩
        refine ⟨_, _, rfl, rfl, by show (0 : Int) < _; decide, _, _, rfl, rfl, .inl ⟨by omega, by omega⟩, _, _, rfl, rfl, .inl ⟨_, rfl, ?_⟩⟩
        exact ⟨_, rfl, _, _, rfl, rfl, m0, q _ _ (Int.emod_nonneg _ (by omega)) (Int.emod_lt_of_pos _ m0) k3⟩
end
/-- a new bag -/
def spBag (K : PySem.W.Frag) : Sp := fun vs H Q _ => ∃ (a : Addr) (ns : List Int), vs = [.ref a] ∧ SqL K H a (ns.map V.int) ∧ ∀ b c H', Same H H' → Bag H' b c → Q (.ref b) H'
theorem cutV_ints (ns : List Int) (lo hi : Option Int) : ∃ ms : List Int, cutV (ns.map V.int) lo hi = ms.map V.int := by
  refine ⟨(ns.drop (HT.sIx ns.length 0 lo)).take (HT.sIx ns.length ns.length hi - HT.sIx ns.length 0 lo), ?_⟩
  unfold cutV
  rw [List.length_map, List.map_take, List.map_drop]
section
variable {P : Program} {w : World} {K : Fg} {mg : Str → Option Value} {base : Heap} {f : Addr} {fd : FuncData}
theorem ok_bag (F : Fun K "_law_bag" "_law_bag" s_l_bag f fd) (T : Blt mg) : FnOk P w K mg base CX0 1 f fd ["_law_script"] (spBag K) := by
  refine F.ok sc_l_bag (fun vs H Q E h => ?_) (fun cdv A outer s H vs Q E hr h => ?_)
  · obtain ⟨a, ns, rfl, _⟩ := h
    rfl
  · obtain ⟨a, ns, rfl, hS, q⟩ := h
    refine ⟨_, (pss_cons (ps_set (i := 1) sc_l_bag.nd rfl (.inl rfl) pe_int)
      (pss_cons (ps_for PassesOwn.never rfl (pi_list (pe_slice sl_list (pv 0) po_none (po_some pe_int))) (pg_name (i := 2) sc_l_bag.nd rfl (.inl rfl))
      (pss_one (ps_set (i := 1) sc_l_bag.nd rfl (.inl rfl) (pe_op op_mod (pe_callTy call_int1 (by rfl) T.n_int (by decide +kernel) (pa_cons (pe_op op_add (pe_op op_add (pe_op op_mul (pv 1) pe_int) (pe_op op_mod (pe_callTy call_int1 (by rfl) T.n_int (by decide +kernel) (pa_cons (pv 2) pa_nil)) pe_int)) pe_int) pa_nil)) pe_int))))
      (pss_one (ps_ret (pe_lst (pa_cons (pe_callTy call_list_of (by rfl) T.n_list (by decide +kernel) (pa_cons (pe_slice sl_list (pv 0) po_none (po_some pe_int)) pa_nil)) (pa_cons pe_int (pa_cons pe_int (pa_cons (pv 1) (pa_cons pe_int pa_nil)))))))))), ?_⟩
    refine ⟨_, rfl, 63, rfl, a, _, rfl, hS, fun p hp => ?_⟩
    obtain ⟨ms, hms⟩ := cutV_ints ns none (some 63)
    refine ⟨p, rfl, ⟨_, SqL.of upd_same⟩, for_list (K := K) (a := p) (xs := cutV (ns.map V.int) none (some 63))
      (fun i σ H' => ∃ sd v, σ = [some (.ref a), some (.int sd), v] ∧ 0 ≤ sd ∧ sd < 2147483563 ∧ H' = upd H p (.lst (cutV (ns.map V.int) none (some 63))))
      ⟨13963, none, rfl, by decide, by decide, rfl⟩ (fun i σ H' _ h => ?_) ?_ ?_⟩
    · obtain ⟨sd, v, _, _, _, e⟩ := h
      rw [e]
      exact SqL.of upd_same
    · rintro i x σ H1 hx ⟨sd, v, rfl, s0, s1, rfl⟩
      obtain ⟨z, rfl⟩ : ∃ z, x = V.int z := by
        have hm := List.mem_of_getElem? hx
        rw [hms] at hm
        obtain ⟨z, _, e⟩ := List.mem_map.mp hm
        exact ⟨z, e.symm⟩
      have y0 := Int.emod_nonneg z (b := 2147483629) (by decide)
      have y1 := Int.emod_lt_of_pos z (b := 2147483629) (by decide)
      refine ⟨_, rfl, _, _, rfl, rfl, .inl ⟨by omega, by omega⟩, _, rfl, .inl ⟨_, rfl, ?_⟩⟩
      refine ⟨_, _, rfl, rfl, by show (0 : Int) < _; decide, _, _, rfl, rfl, _, _, rfl, rfl, .inl ⟨_, rfl, ?_⟩⟩
      refine ⟨_, _, rfl, rfl, by show (0 : Int) < _; decide, ?_⟩
      exact ⟨_, _, rfl, Int.emod_nonneg _ (by decide), Int.emod_lt_of_pos _ (by decide), rfl⟩
    · rintro σ H1 ⟨sd, v, rfl, s0, s1, rfl⟩
      have e1 : Same H (upd H p (.lst (cutV (ns.map V.int) none (some 63)))) := Same.new (Same.refl H) hp
      generalize upd H p (.lst (cutV (ns.map V.int) none (some 63))) = H1 at e1
      refine ⟨_, rfl, 63, rfl, a, _, rfl, e1.seq hS, fun p2 hp2 => ⟨p2, _, rfl, .inl (SqL.of upd_same), fun l hl => ?_⟩⟩
      refine ⟨_, rfl, by show 5 ≤ sizeLine; decide, fun b hb => ?_⟩
      have e3 := Same.new (o := .lst [.ref l, .int 0, .int 0, .int sd, .int 0]) (Same.new (o := .lst (cutV (ns.map V.int) none (some 63))) (Same.new (o := .lst (cutV (ns.map V.int) none (some 63))) e1 hp2) hl) hb
      have hbl : l ≠ b := (ne_of_none upd_same hb)
      refine q b l _ e3 ⟨hbl, ms, 0, 0, sd, 0, upd_same, ?_, by decide, by decide, s0, s1⟩
      rw [upd_ne hbl, upd_same, hms]
end
section
variable {H : Hp} {Q : VK} {E : XK} {b c : Addr}
theorem sp_draw {m : Int} (k : ∀ i H', 0 ≤ i → i < m → Same (delH H b) (delH H' b) → Bag H' b c → Q (.int i) H') (B : Bag H b c) (h0 : 0 < m) (h1 : m < 1073741824) : spDraw [.ref b, .int m] H Q E :=
  ⟨b, c, m, rfl, h0, h1, B, fun i H' i0 i1 k2 => k i H' i0 i1 (mk_kp k2) k2.2⟩
/-- one of the things -/
def spOf : Sp := fun vs H Q _ => ∃ (b c l : Addr) (xs : List V), vs = [.ref b, .ref l] ∧ Bag H b c ∧ delH H b l = some (.lst xs) ∧ 0 < xs.length ∧ xs.length < 1000 ∧ ∀ x H', x ∈ xs → Same (delH H b) (delH H' b) → Bag H' b c → Q x H'
theorem sp_of {l : Addr} {xs : List V} (h : delH H b l = some (.lst xs)) (B : Bag H b c) (h0 : 0 < xs.length) (h1 : xs.length < 1000) (k : ∀ x H', x ∈ xs → Same (delH H b) (delH H' b) → Bag H' b c → Q x H') : spOf [.ref b, .ref l] H Q E :=
  ⟨b, c, l, xs, rfl, B, h, h0, h1, k⟩
end

local macro_rules | `(tactic| walk_at "hpS") => `(tactic| with_reducible first
  | exact Same.refl _
  | assumption
  | (refine' Same.trans ?hq (same_new (by assumption)); (case hq => walk_at "hpS"))
  | (refine' Same.trans ?hq (by assumption); (case hq => walk_at "hpS"))
  | fail)
local macro_rules | `(tactic| walk_at "hpH") => `(tactic| with_reducible first
  | assumption
  | exact upd_same
  | (refine' same_at (same_new (by assumption)) ?hq; (case hq => walk_at "hpH"))
  | (refine' same_at (by assumption) ?hq; (case hq => walk_at "hpH"))
  | fail)
local macro_rules | `(tactic| walk_at "hpTo") => `(tactic| with_reducible first
  | assumption
  | (refine' sq_t (same_new (by assumption)) ?hq; (case hq => walk_at "hpTo"))
  | (refine' sq_t (by assumption) ?hq; (case hq => walk_at "hpTo"))
  | fail)
local macro_rules | `(tactic| walk_at "hpT") => `(tactic| with_reducible first
  | (refine' SqT.of ?hq; (case hq => walk_at "hpH"))
  | walk_at "hpTo"
  | fail)
local macro_rules | `(tactic| walk_at "hpLo") => `(tactic| with_reducible first
  | assumption
  | (refine' sq_l (same_new (by assumption)) ?hq; (case hq => walk_at "hpLo"))
  | (refine' sq_l (by assumption) ?hq; (case hq => walk_at "hpLo"))
  | fail)
local macro_rules | `(tactic| walk_at "hpL") => `(tactic| with_reducible first
  | (refine' SqL.of ?hq; (case hq => walk_at "hpH"))
  | walk_at "hpLo"
  | fail)
local macro_rules | `(tactic| walk_at "kit") => `(tactic| with_reducible first
  | exact kit_int_bool | exact kit_int_int | exact kit_int_tuple | exact kit_int_list | exact kit_int_str
  | exact kit_tuple_tuple | exact kit_tuple_int | exact kit_tuple_bool | exact kit_tuple_list | exact kit_tuple_str
  | exact kit_bool_bool | exact kit_bool_int | exact kit_bool_tuple | exact kit_bool_list | exact kit_bool_str
  | exact kit_str_str | exact kit_str_int | exact kit_str_bool | exact kit_str_tuple | exact kit_str_list
  | exact kit_NoneType_int | exact kit_NoneType_bool | exact kit_NoneType_tuple | exact kit_NoneType_list | exact kit_NoneType_str
  | exact kit_list_list | exact kit_list_tuple | exact kit_list_int | exact kit_list_bool | exact kit_list_str
  | fail)
local macro_rules | `(tactic| walk_at "call") => `(tactic| fail)
local macro_rules | `(tactic| walk_at "s0") => `(tactic| with_reducible first
  | refine g_seq ?_ | refine g_asg ?_ | refine g_name ?_ | refine g_ifS ?_ | refine g_ret ?_ | refine g_retN ?_ | refine g_next ?_
  | refine g_par ?_ | refine g_parE ?_ | refine g_drop ?_
  | refine g_c ?_ | refine g_op ?_ | refine g_un ?_ | refine g_cb ?_ | refine g_call ?_ | refine g_nil ?_ | refine g_cons ?_ | refine g_tup ?_ | refine g_lst ?_
  | refine g_test ?_ | refine g_B ?_ | refine g_blF ?_ | refine g_and ?_ | refine g_or ?_ | refine g_not ?_ | refine g_andV ?_ | refine g_orV ?_ | refine g_notV ?_ | refine g_if ?_
  | refine iteT ?_ | refine iteF ?_
  | refine g_chain ?_ | refine g_sl ?_ | refine g_noPart ?_ | refine g_part ?_ | refine g_partI ?_ | refine g_slS ?_ ?side | refine g_M1 ?_ | refine g_M1s ?_ | refine g_starts ?_ | refine g_bm ?_ | refine g_bm0 ?_ | refine g_tyS ?_
  | refine g_Fs ?_ | refine g_JsN ?_ | refine g_JsC ?_ | refine g_JsE ?_ ?side | refine g_fmt ?_ | refine g_fmtI ?_ ?side | refine g_fmtS ?_ ?side | refine g_iList ?_ | refine g_iTup ?_ | refine g_iStr ?_ | refine g_iStrE ?_ | refine g_iRng1 ?_ | refine g_iRng1E ?_ ?side1 ?side2 | refine g_yes ?_ | refine g_ckw ?_ | refine g_dget ?_ | refine g_dictZip ?_ | refine g_gCons ?_ | refine g_gNil ?_ | refine g_revL ?_ | refine g_for ?_ | refine g_lc ?_ | refine g_addS ?_ ?side | refine g_str ?_ ?side | refine g_lenS ?_ ?side
  | refine g_rI0 ?_ | refine g_rI ?_ ?side | refine g_rU ?_ | refine g_abs ?_ | refine g_int ?_ | refine g_intB ?_ | refine g_gcd ?_ | refine g_inS ?_ | refine g_isN0 ?_ | refine g_notN0 ?_
  | fail)
local macro_rules | `(tactic| walk_at "s1") => `(tactic| first
  | ((with_reducible refine' g_var ?h ?_); (case h => exact rfl))
  | ((with_reducible refine' g_new ?h ?_); (case h => exact (by simp only [List.length_cons, List.length_nil]; decide)); intro tnew htnew)
  | ((with_reducible refine' iteDT ?h ?_); (case h => first | exact rfl | assumption))
  | ((with_reducible refine' iteNT ?h ?_); (case h => first | exact rfl | assumption))
  | ((with_reducible refine' iteDF ?h ?_); (case h => first | assumption | (intro z; cases z)))
  | ((with_reducible refine' iteNF ?h ?_); (case h => first | assumption | (intro z; cases z)))
  | ((with_reducible refine' g_eq ?_ ?h); (case h => exact rfl))
  | ((with_reducible refine' g_ne ?_ ?h); (case h => exact rfl))
  | ((with_reducible refine' g_ixT ?_ ?h ?e); (case h => walk_at "hpT"); (case e => first | exact rfl | exact atI_0 | exact atI_1))
  | ((with_reducible refine' g_ixL ?_ ?h ?e); (case h => walk_at "hpL"); (case e => first | exact rfl | exact atI_0 | exact atI_1))
  | ((with_reducible refine' g_isi_int ?_ ?h); (case h => walk_at "kit"))
  | ((with_reducible refine' g_isi_str ?_ ?h); (case h => walk_at "kit"))
  | ((with_reducible refine' g_isi_bl ?_ ?h); (case h => walk_at "kit"))
  | ((with_reducible refine' g_isi_non ?_ ?h); (case h => walk_at "kit"))
  | ((with_reducible refine' g_isi_t ?_ ?t ?h); (case t => walk_at "hpT"); (case h => walk_at "kit"))
  | ((with_reducible refine' g_isi_l ?_ ?t ?h ?l); (case l => walk_at "hpH"); (case t => walk_at "hpL"); (case h => walk_at "kit"))
  | ((with_reducible refine' g_lenT ?_ ?h); (case h => walk_at "hpT"))
  | ((with_reducible refine' g_lenL ?_ ?h); (case h => walk_at "hpL"))
  | ((with_reducible refine' g_split ?_ ?h ?side); (case h => exact rfl); intro pnew hpnew)
  | ((with_reducible refine' g_slL ?h ?_); (case h => walk_at "hpL"); intro pnew hpnew)
  | ((with_reducible refine' g_iListE ?_ ?h); (case h => walk_at "hpL"))
  | ((with_reducible refine' g_iTupE ?_ ?h); (case h => walk_at "hpT"))
  | ((with_reducible refine' g_tyL ?_ ?h); (case h => walk_at "hpL"))
  | ((with_reducible refine' g_join ?_ ?h ?side); (case h => walk_at "hpL"))
  | ((with_reducible refine' g_append ?_ ?h ?side); (case h => walk_at "hpH"))
  | ((with_reducible refine' g_all ?_ ?h); (case h => walk_at "hpL"))
  | ((with_reducible refine' g_gTup ?_ ?h ?n); (case h => walk_at "hpT"); (case n => exact rfl))
  | ((with_reducible refine' g_revLE ?h ?_); (case h => walk_at "hpL"); intro pnew hpnew)
  | ((with_reducible refine' g_isN1 ?_ ?h); (case h => first | assumption | (intro z; cases z)))
  | ((with_reducible refine' g_notN1 ?_ ?h); (case h => first | assumption | (intro z; cases z)))
  | walk_at "call"
  | ((with_reducible refine' iteBT ?h ?_); (case h => first | assumption | exact rfl))
  | ((with_reducible refine' iteBF ?h ?_); (case h => first | assumption | exact rfl))
  | fail)
local macro_rules | `(tactic| walk_at "nrm") => `(tactic| simp only [Bool.not_true, Bool.not_false, decide_eq_true_eq, decide_true, decide_false, Bool.true_and, Bool.false_and, Bool.and_true, Bool.and_false, V.int.injEq, V.bl.injEq, V.str.injEq, List.length_cons, List.length_nil, Bool.not_eq_true', decide_eq_false_iff_not, Int.not_lt, Int.not_le, reduceCtorEq, not_false_eq_true, not_true_eq_false, Decidable.not_not] at *)
local macro_rules | `(tactic| walk_at "sp") => `(tactic| ((with_reducible refine ite2 (fun c => ?_) (fun c => ?_)) <;> (try simp only [decide_eq_true_eq, Bool.not_eq_true', decide_eq_false_iff_not, V.int.injEq, V.bl.injEq, V.str.injEq, Int.not_lt, Int.not_le, reduceCtorEq, Decidable.not_not, Bool.false_eq_true, Bool.true_eq_false] at c) <;> (try (exfalso; omega))))
local macro_rules | `(tactic| walk_at "s") => `(tactic| first | walk_at "s0" | walk_at "s1" | fail)
local macro_rules | `(tactic| walk_at "go") => `(tactic| (try dsimp only [cxK, cxK']); repeat' walk_at "s")
local macro_rules | `(tactic| walk_at "gos") => `(tactic| ((try dsimp only [cxK, cxK']); repeat' (first | walk_at "s" | walk_at "sp" | fail)))

local macro_rules | `(tactic| walk_at "hpNo") => `(tactic| with_reducible first
  | assumption
  | (refine' Nm.ofPr ?hq; (case hq => assumption))
  | (refine' Nm.same (same_new (by assumption)) ?hq; (case hq => walk_at "hpNo"))
  | (refine' Nm.same (by assumption) ?hq; (case hq => walk_at "hpNo"))
  | fail)
local macro_rules | `(tactic| walk_at "hpN") => `(tactic| with_reducible first
  | walk_at "hpNo"
  | (refine' Nm.of ?hq; (case hq => walk_at "hpH"))
  | fail)
local macro_rules | `(tactic| walk_at "hpPo") => `(tactic| with_reducible first
  | assumption
  | (refine' Pr.same (same_new (by assumption)) ?hq; (case hq => walk_at "hpPo"))
  | (refine' Pr.same (by assumption) ?hq; (case hq => walk_at "hpPo"))
  | fail)
local macro_rules | `(tactic| walk_at "hpP") => `(tactic| with_reducible first
  | walk_at "hpPo"
  | (refine' Pr.of ?hq; (case hq => walk_at "hpH"))
  | fail)
local macro_rules | `(tactic| walk_at "hpDo") => `(tactic| with_reducible first
  | assumption
  | exact Dq.int _ | exact Dq.bl _ | exact Dq.str _ | exact Dq.non
  | (refine' Dq.same (same_new (by assumption)) ?hq; (case hq => walk_at "hpDo"))
  | (refine' Dq.same (by assumption) ?hq; (case hq => walk_at "hpDo"))
  | fail)
local macro_rules | `(tactic| walk_at "hpD") => `(tactic| with_reducible first
  | walk_at "hpDo"
  | fail)

local macro_rules | `(tactic| walk_at "hpM") => `(tactic| with_reducible first
  | assumption
  | (refine' mk_new ?hn ?hB; (case hn => assumption); (case hB => walk_at "hpB"))
  | (refine' mk_tup ?hn ?hB; (case hn => assumption); (case hB => walk_at "hpB"))
  | (refine' same_at (mk_upd (by assumption)) ?hq; (case hq => walk_at "hpM"))
  | (refine' same_at (show Same (delH _ _) (delH _ _) by assumption) ?hq; (case hq => walk_at "hpM"))
  | (refine' same_at (mk_mono (by assumption)) ?hq; (case hq => walk_at "hpM"))
  | fail)
local macro_rules | `(tactic| walk_at "hpSM") => `(tactic| with_reducible first
  | exact Same.refl _
  | assumption
  | (refine' Same.trans ?hq (mk_upd (by assumption)); (case hq => walk_at "hpSM"))
  | (refine' Same.trans ?hq (show Same (delH _ _) (delH _ _) by assumption); (case hq => walk_at "hpSM"))
  | (refine' Same.trans ?hq (mk_mono (by assumption)); (case hq => walk_at "hpSM"))
  | fail)
local macro_rules | `(tactic| walk_at "hpB") => `(tactic| with_reducible first
  | assumption
  | (refine' bag_upd ?hq (by assumption); (case hq => walk_at "hpB"))
  | (refine' bag_same ?hq (by assumption); (case hq => walk_at "hpB"))
  | fail)
local macro_rules | `(tactic| walk_at "hpHo") => `(tactic| with_reducible first
  | assumption
  | exact upd_same
  | (refine' same_at (same_new (by assumption)) ?hq; (case hq => walk_at "hpHo"))
  | (refine' same_at (by assumption) ?hq; (case hq => walk_at "hpHo"))
  | fail)
local macro_rules | `(tactic| walk_at "hpH") => `(tactic| with_reducible first
  | walk_at "hpHo"
  | (refine' same_at mk_same ?hq; (case hq => walk_at "hpM"))
  | fail)
local macro_rules | `(tactic| walk_at "hpNo") => `(tactic| with_reducible first
  | assumption
  | (refine' Nm.ofPr ?hq; (case hq => assumption))
  | (refine' Nm.same (same_new (by assumption)) ?hq; (case hq => walk_at "hpNo"))
  | (refine' Nm.same (by assumption) ?hq; (case hq => walk_at "hpNo"))
  | fail)
local macro_rules | `(tactic| walk_at "hpNMo") => `(tactic| with_reducible first
  | assumption
  | (refine' Nm.ofPr ?hq; (case hq => assumption))
  | (refine' Nm.same (mk_upd (by assumption)) ?hq; (case hq => walk_at "hpNMo"))
  | (refine' Nm.same (show Same (delH _ _) (delH _ _) by assumption) ?hq; (case hq => walk_at "hpNMo"))
  | (refine' Nm.same (mk_mono (by assumption)) ?hq; (case hq => walk_at "hpNMo"))
  | fail)
local macro_rules | `(tactic| walk_at "hpNM") => `(tactic| with_reducible first
  | walk_at "hpNMo"
  | (refine' Nm.of ?hq; (case hq => walk_at "hpM"))
  | fail)
local macro_rules | `(tactic| walk_at "hpN") => `(tactic| with_reducible first
  | walk_at "hpNo"
  | (refine' Nm.same mk_same ?hq; (case hq => walk_at "hpNMo"))
  | (refine' Nm.of ?hq; (case hq => walk_at "hpH"))
  | fail)
local macro_rules | `(tactic| walk_at "hpPo") => `(tactic| with_reducible first
  | assumption
  | (refine' Pr.same (same_new (by assumption)) ?hq; (case hq => walk_at "hpPo"))
  | (refine' Pr.same (by assumption) ?hq; (case hq => walk_at "hpPo"))
  | fail)
local macro_rules | `(tactic| walk_at "hpPMo") => `(tactic| with_reducible first
  | assumption
  | (refine' Pr.same (mk_upd (by assumption)) ?hq; (case hq => walk_at "hpPMo"))
  | (refine' Pr.same (show Same (delH _ _) (delH _ _) by assumption) ?hq; (case hq => walk_at "hpPMo"))
  | (refine' Pr.same (mk_mono (by assumption)) ?hq; (case hq => walk_at "hpPMo"))
  | fail)
local macro_rules | `(tactic| walk_at "hpPM") => `(tactic| with_reducible first
  | walk_at "hpPMo"
  | (refine' Pr.of ?hq; (case hq => walk_at "hpM"))
  | fail)
local macro_rules | `(tactic| walk_at "hpP") => `(tactic| with_reducible first
  | walk_at "hpPo"
  | (refine' Pr.same mk_same ?hq; (case hq => walk_at "hpPMo"))
  | (refine' Pr.of ?hq; (case hq => walk_at "hpH"))
  | fail)
local macro_rules | `(tactic| walk_at "hpDo") => `(tactic| with_reducible first
  | assumption
  | exact Dq.int _ | exact Dq.bl _ | exact Dq.str _ | exact Dq.non
  | (refine' Dq.same (same_new (by assumption)) ?hq; (case hq => walk_at "hpDo"))
  | (refine' Dq.same (by assumption) ?hq; (case hq => walk_at "hpDo"))
  | fail)
local macro_rules | `(tactic| walk_at "hpDMo") => `(tactic| with_reducible first
  | assumption
  | exact Dq.int _ | exact Dq.bl _ | exact Dq.str _ | exact Dq.non
  | (refine' Dq.same (mk_upd (by assumption)) ?hq; (case hq => walk_at "hpDMo"))
  | (refine' Dq.same (show Same (delH _ _) (delH _ _) by assumption) ?hq; (case hq => walk_at "hpDMo"))
  | (refine' Dq.same (mk_mono (by assumption)) ?hq; (case hq => walk_at "hpDMo"))
  | fail)
local macro_rules | `(tactic| walk_at "hpDM") => `(tactic| with_reducible first
  | walk_at "hpDMo"
  | fail)
local macro_rules | `(tactic| walk_at "hpD") => `(tactic| with_reducible first
  | walk_at "hpDo"
  | (refine' Dq.same mk_same ?hq; (case hq => walk_at "hpDMo"))
  | fail)
local macro_rules | `(tactic| walk_at "call") => `(tactic| first
  | ((with_reducible refine' sp_draw ?_ ?h ?side1 ?side2); (case h => walk_at "hpB"); intro idraw Hd' hi0 hi1 sd' bd')
  | fail)

section
variable {P : Program} {w : World} {K : Fg} {mg : Str → Option Value} {base : Heap} {f f1 : Addr} {fd : FuncData}
theorem ok_of (F : Fun K "_law_of" "_law_of" s_l_of f fd) (T : Blt mg) (D_l_draw : Df P w K mg base 1 "_law_draw" f1 ["_law_bag_here", "_law_many"] spDraw) : FnOk P w K mg base CX0 2 f fd ["_law_bag_here", "_law_things"] spOf := by
  obtain ⟨_, G_l_draw, B_l_draw⟩ := D_l_draw.ok
  refine F.ok sc_l_of (fun vs H Q E h => ?_) (fun cdv A outer s H vs Q E hr h => ?_)
  · obtain ⟨b, c, l, xs, rfl, _⟩ := h
    rfl
  · obtain ⟨b, c, l, xs, rfl, B, hl, h0, h1, k⟩ := h
    refine ⟨_, (pss_one (ps_ret (pe_ix (ix_seqK K) (pv 1) (pe_call G_l_draw (hr.mono (by decide)) (by rfl) D_l_draw.g D_l_draw.kp B_l_draw .nil pass0 (pa_cons (pv 0) (pa_cons (pe_callB (cg_lenK K) (by rfl) T.n_len (by decide +kernel) (pa_cons (pv 1) pa_nil)) pa_nil))) (fun _ _ => rfl)))), ?_⟩
    walk_at "go"
    all_goals first
      | omega
      | skip
    rename_i i H' i0 i1 s2 B2
    obtain ⟨x, hx⟩ : ∃ x, xs[i.toNat]? = some x := ⟨_, List.getElem?_eq_getElem (by omega)⟩
    have e : i = ((i.toNat : Nat) : Int) := by omega
    refine g_ixL ?_ (SqL.of (mk_same _ _ (s2 _ _ hl))) (by rw [e]; exact atI_nat hx)
    exact k x H' (List.mem_of_getElem? hx) s2 B2
end
end Ko


namespace Ko
open PySem L2 PySem.Spec PyProof.Rows Xm
section
variable {H : Hp} {Q : VK} {E : XK} {x y : V} {d : Dt} {n : Nat}
theorem sp_like (hx : Dq H x d) (hy : Dq H y d) (o : Dt.ok n d) (k : ∀ H', Same H H' → Q (.bl true) H') : spLike n [x, y] H Q E := ⟨x, y, d, rfl, hx, hy, o, k⟩
theorem g_eqS {x : V} (q : Q (.bl true) H) (h : scal x x = true) : rEq x x H Q := ⟨h, by rw [decide_eq_true rfl]; exact q⟩
theorem DqAll.at2 {H : Hp} {vs : List V} {ds : List Dt} {i : Nat} {v : V} {d : Dt} (h : DqAll H vs ds) (e : vs[i]? = some v) (e2 : ds[i]? = some d) : Dq H v d := by
  obtain ⟨d', e3, q⟩ := h.at e
  rw [e2] at e3
  cases e3
  exact q
end

local macro_rules | `(tactic| walk_at "hpS") => `(tactic| with_reducible first
  | exact Same.refl _
  | assumption
  | (refine' Same.trans ?hq (same_new (by assumption)); (case hq => walk_at "hpS"))
  | (refine' Same.trans ?hq (by assumption); (case hq => walk_at "hpS"))
  | fail)
local macro_rules | `(tactic| walk_at "hpH") => `(tactic| with_reducible first
  | assumption
  | exact upd_same
  | (refine' same_at (same_new (by assumption)) ?hq; (case hq => walk_at "hpH"))
  | (refine' same_at (by assumption) ?hq; (case hq => walk_at "hpH"))
  | fail)
local macro_rules | `(tactic| walk_at "hpTo") => `(tactic| with_reducible first
  | assumption
  | (refine' sq_t (same_new (by assumption)) ?hq; (case hq => walk_at "hpTo"))
  | (refine' sq_t (by assumption) ?hq; (case hq => walk_at "hpTo"))
  | fail)
local macro_rules | `(tactic| walk_at "hpT") => `(tactic| with_reducible first
  | (refine' SqT.of ?hq; (case hq => walk_at "hpH"))
  | walk_at "hpTo"
  | fail)
local macro_rules | `(tactic| walk_at "hpLo") => `(tactic| with_reducible first
  | assumption
  | (refine' sq_l (same_new (by assumption)) ?hq; (case hq => walk_at "hpLo"))
  | (refine' sq_l (by assumption) ?hq; (case hq => walk_at "hpLo"))
  | fail)
local macro_rules | `(tactic| walk_at "hpL") => `(tactic| with_reducible first
  | (refine' SqL.of ?hq; (case hq => walk_at "hpH"))
  | walk_at "hpLo"
  | fail)
local macro_rules | `(tactic| walk_at "kit") => `(tactic| with_reducible first
  | exact kit_int_bool | exact kit_int_int | exact kit_int_tuple | exact kit_int_list | exact kit_int_str
  | exact kit_tuple_tuple | exact kit_tuple_int | exact kit_tuple_bool | exact kit_tuple_list | exact kit_tuple_str
  | exact kit_bool_bool | exact kit_bool_int | exact kit_bool_tuple | exact kit_bool_list | exact kit_bool_str
  | exact kit_str_str | exact kit_str_int | exact kit_str_bool | exact kit_str_tuple | exact kit_str_list
  | exact kit_NoneType_int | exact kit_NoneType_bool | exact kit_NoneType_tuple | exact kit_NoneType_list | exact kit_NoneType_str
  | exact kit_list_list | exact kit_list_tuple | exact kit_list_int | exact kit_list_bool | exact kit_list_str
  | fail)
local macro_rules | `(tactic| walk_at "call") => `(tactic| fail)
local macro_rules | `(tactic| walk_at "s0") => `(tactic| with_reducible first
  | refine g_seq ?_ | refine g_asg ?_ | refine g_name ?_ | refine g_ifS ?_ | refine g_ret ?_ | refine g_retN ?_ | refine g_next ?_
  | refine g_par ?_ | refine g_parE ?_ | refine g_drop ?_
  | refine g_c ?_ | refine g_op ?_ | refine g_un ?_ | refine g_cb ?_ | refine g_call ?_ | refine g_nil ?_ | refine g_cons ?_ | refine g_tup ?_ | refine g_lst ?_
  | refine g_test ?_ | refine g_B ?_ | refine g_blF ?_ | refine g_and ?_ | refine g_or ?_ | refine g_not ?_ | refine g_andV ?_ | refine g_orV ?_ | refine g_notV ?_ | refine g_if ?_
  | refine iteT ?_ | refine iteF ?_
  | refine g_chain ?_ | refine g_sl ?_ | refine g_noPart ?_ | refine g_part ?_ | refine g_partI ?_ | refine g_slS ?_ ?side | refine g_M1 ?_ | refine g_M1s ?_ | refine g_starts ?_ | refine g_bm ?_ | refine g_bm0 ?_ | refine g_tyS ?_
  | refine g_Fs ?_ | refine g_JsN ?_ | refine g_JsC ?_ | refine g_JsE ?_ ?side | refine g_fmt ?_ | refine g_fmtI ?_ ?side | refine g_fmtS ?_ ?side | refine g_iList ?_ | refine g_iTup ?_ | refine g_iStr ?_ | refine g_iStrE ?_ | refine g_iRng1 ?_ | refine g_iRng1E ?_ ?side1 ?side2 | refine g_yes ?_ | refine g_ckw ?_ | refine g_dget ?_ | refine g_dictZip ?_ | refine g_gCons ?_ | refine g_gNil ?_ | refine g_revL ?_ | refine g_for ?_ | refine g_lc ?_ | refine g_addS ?_ ?side | refine g_str ?_ ?side | refine g_lenS ?_ ?side
  | refine g_rI0 ?_ | refine g_rI ?_ ?side | refine g_rU ?_ | refine g_abs ?_ | refine g_int ?_ | refine g_intB ?_ | refine g_gcd ?_ | refine g_inS ?_ | refine g_isN0 ?_ | refine g_notN0 ?_
  | fail)
local macro_rules | `(tactic| walk_at "s1") => `(tactic| first
  | ((with_reducible refine' g_var ?h ?_); (case h => exact rfl))
  | ((with_reducible refine' g_new ?h ?_); (case h => exact (by simp only [List.length_cons, List.length_nil]; decide)); intro tnew htnew)
  | ((with_reducible refine' iteDT ?h ?_); (case h => first | exact rfl | assumption))
  | ((with_reducible refine' iteNT ?h ?_); (case h => first | exact rfl | assumption))
  | ((with_reducible refine' iteDF ?h ?_); (case h => first | assumption | (intro z; cases z)))
  | ((with_reducible refine' iteNF ?h ?_); (case h => first | assumption | (intro z; cases z)))
  | ((with_reducible refine' g_eq ?_ ?h); (case h => exact rfl))
  | ((with_reducible refine' g_ne ?_ ?h); (case h => exact rfl))
  | ((with_reducible refine' g_ixT ?_ ?h ?e); (case h => walk_at "hpT"); (case e => first | exact rfl | exact atI_0 | exact atI_1))
  | ((with_reducible refine' g_ixL ?_ ?h ?e); (case h => walk_at "hpL"); (case e => first | exact rfl | exact atI_0 | exact atI_1))
  | ((with_reducible refine' g_isi_int ?_ ?h); (case h => walk_at "kit"))
  | ((with_reducible refine' g_isi_str ?_ ?h); (case h => walk_at "kit"))
  | ((with_reducible refine' g_isi_bl ?_ ?h); (case h => walk_at "kit"))
  | ((with_reducible refine' g_isi_non ?_ ?h); (case h => walk_at "kit"))
  | ((with_reducible refine' g_isi_t ?_ ?t ?h); (case t => walk_at "hpT"); (case h => walk_at "kit"))
  | ((with_reducible refine' g_isi_l ?_ ?t ?h ?l); (case l => walk_at "hpH"); (case t => walk_at "hpL"); (case h => walk_at "kit"))
  | ((with_reducible refine' g_lenT ?_ ?h); (case h => walk_at "hpT"))
  | ((with_reducible refine' g_lenL ?_ ?h); (case h => walk_at "hpL"))
  | ((with_reducible refine' g_split ?_ ?h ?side); (case h => exact rfl); intro pnew hpnew)
  | ((with_reducible refine' g_slL ?h ?_); (case h => walk_at "hpL"); intro pnew hpnew)
  | ((with_reducible refine' g_iListE ?_ ?h); (case h => walk_at "hpL"))
  | ((with_reducible refine' g_iTupE ?_ ?h); (case h => walk_at "hpT"))
  | ((with_reducible refine' g_tyL ?_ ?h); (case h => walk_at "hpL"))
  | ((with_reducible refine' g_join ?_ ?h ?side); (case h => walk_at "hpL"))
  | ((with_reducible refine' g_append ?_ ?h ?side); (case h => walk_at "hpH"))
  | ((with_reducible refine' g_all ?_ ?h); (case h => walk_at "hpL"))
  | ((with_reducible refine' g_gTup ?_ ?h ?n); (case h => walk_at "hpT"); (case n => exact rfl))
  | ((with_reducible refine' g_revLE ?h ?_); (case h => walk_at "hpL"); intro pnew hpnew)
  | ((with_reducible refine' g_isN1 ?_ ?h); (case h => first | assumption | (intro z; cases z)))
  | ((with_reducible refine' g_notN1 ?_ ?h); (case h => first | assumption | (intro z; cases z)))
  | walk_at "call"
  | ((with_reducible refine' iteBT ?h ?_); (case h => first | assumption | exact rfl))
  | ((with_reducible refine' iteBF ?h ?_); (case h => first | assumption | exact rfl))
  | fail)
local macro_rules | `(tactic| walk_at "nrm") => `(tactic| simp only [Bool.not_true, Bool.not_false, decide_eq_true_eq, decide_true, decide_false, Bool.true_and, Bool.false_and, Bool.and_true, Bool.and_false, V.int.injEq, V.bl.injEq, V.str.injEq, List.length_cons, List.length_nil, Bool.not_eq_true', decide_eq_false_iff_not, Int.not_lt, Int.not_le, reduceCtorEq, not_false_eq_true, not_true_eq_false, Decidable.not_not] at *)
local macro_rules | `(tactic| walk_at "sp") => `(tactic| ((with_reducible refine ite2 (fun c => ?_) (fun c => ?_)) <;> (try simp only [decide_eq_true_eq, Bool.not_eq_true', decide_eq_false_iff_not, V.int.injEq, V.bl.injEq, V.str.injEq, Int.not_lt, Int.not_le, reduceCtorEq, Decidable.not_not, Bool.false_eq_true, Bool.true_eq_false] at c) <;> (try (exfalso; omega))))
local macro_rules | `(tactic| walk_at "s") => `(tactic| first | walk_at "s0" | walk_at "s1" | fail)
local macro_rules | `(tactic| walk_at "go") => `(tactic| (try dsimp only [cxK, cxK']); repeat' walk_at "s")
local macro_rules | `(tactic| walk_at "gos") => `(tactic| ((try dsimp only [cxK, cxK']); repeat' (first | walk_at "s" | walk_at "sp" | fail)))

local macro_rules | `(tactic| walk_at "hpNo") => `(tactic| with_reducible first
  | assumption
  | (refine' Nm.ofPr ?hq; (case hq => assumption))
  | (refine' Nm.same (same_new (by assumption)) ?hq; (case hq => walk_at "hpNo"))
  | (refine' Nm.same (by assumption) ?hq; (case hq => walk_at "hpNo"))
  | fail)
local macro_rules | `(tactic| walk_at "hpN") => `(tactic| with_reducible first
  | walk_at "hpNo"
  | (refine' Nm.of ?hq; (case hq => walk_at "hpH"))
  | fail)
local macro_rules | `(tactic| walk_at "hpPo") => `(tactic| with_reducible first
  | assumption
  | (refine' Pr.same (same_new (by assumption)) ?hq; (case hq => walk_at "hpPo"))
  | (refine' Pr.same (by assumption) ?hq; (case hq => walk_at "hpPo"))
  | fail)
local macro_rules | `(tactic| walk_at "hpP") => `(tactic| with_reducible first
  | walk_at "hpPo"
  | (refine' Pr.of ?hq; (case hq => walk_at "hpH"))
  | fail)
local macro_rules | `(tactic| walk_at "hpDo") => `(tactic| with_reducible first
  | assumption
  | exact Dq.int _ | exact Dq.bl _ | exact Dq.str _ | exact Dq.non
  | (refine' Dq.same (same_new (by assumption)) ?hq; (case hq => walk_at "hpDo"))
  | (refine' Dq.same (by assumption) ?hq; (case hq => walk_at "hpDo"))
  | fail)
local macro_rules | `(tactic| walk_at "hpD") => `(tactic| with_reducible first
  | walk_at "hpDo"
  | fail)

local macro_rules | `(tactic| walk_at "call") => `(tactic| first
  | ((with_reducible refine' g_LT_int ?_ ?h); (case h => walk_at "hpH"))
  | ((with_reducible refine' g_LT_str ?_ ?h); (case h => walk_at "hpH"))
  | ((with_reducible refine' g_LT_bl ?_ ?h); (case h => walk_at "hpH"))
  | ((with_reducible refine' g_LT_non ?_ ?h); (case h => walk_at "hpH"))
  | ((with_reducible refine' g_LT_lst ?_ ?h ?a); (case a => walk_at "hpH"); (case h => walk_at "hpH"))
  | ((with_reducible refine' g_LT_tup ?_ ?h ?a); (case a => walk_at "hpH"); (case h => walk_at "hpH"))
  | (with_reducible refine' g_iZipA ?_)
  | fail)
section
variable {P : Program} {w : World} {K : Fg} {mg : Str → Option Value} {base : Heap} {f : Addr} {fd : FuncData}
theorem ok_like0 (F : Fun K "_law_like" "_law_like" s_l_like f fd) (T : Blt mg) : FnOk P w K mg base CX0 1 f fd ["_law_found", "_law_due"] (spLike 0) := by
  refine F.ok sc_l_like (fun vs H Q E h => ?_) (fun cdv A outer s H vs Q E hr h => ?_)
  · obtain ⟨x, y, d, rfl, _⟩ := h
    rfl
  · obtain ⟨x, y, d, rfl, hx, hy, ho, k⟩ := h
    refine ⟨_, (pss_cons (ps_if (pt_val (pe_callB (cg_isiTK K) (by rfl) T.n_isinstance (by decide +kernel) (pa_cons (pv 1) (pa_cons (pe_tup (pa_cons (pe_bltn (v := .ty "list") (by rfl) T.n_list (by decide +kernel) rfl) (pa_cons (pe_bltn (v := .ty "tuple") (by rfl) T.n_tuple (by decide +kernel) rfl) pa_nil))) pa_nil)))) pss_never pss_nil)
      (pss_cons (ps_if (PW.pt (pw_or (pt_cmpR og_isN (pv 1) pe_non (nomark _)) (pw_or1 (pt_cmpR og_isN (pv 0) pe_non (nomark _)))))
      (pss_one (ps_ret (pe_and (pe_cmpR og_isN (pv 1) pe_non (nomark _)) (pe_one (pe_cmpR og_isN (pv 0) pe_non (nomark _)))))) pss_nil)
      (pss_cons (ps_if (PW.pt (pw_or (pt_val (pe_callB (cg_isiK K) (by rfl) T.n_isinstance (by decide +kernel) (pa_cons (pv 1) (pa_cons (pe_bltn (v := .ty "bool") (by rfl) T.n_bool (by decide +kernel) rfl) pa_nil)))) (pw_or1 (pt_val (pe_callB (cg_isiK K) (by rfl) T.n_isinstance (by decide +kernel) (pa_cons (pv 0) (pa_cons (pe_bltn (v := .ty "bool") (by rfl) T.n_bool (by decide +kernel) rfl) pa_nil)))))))
      (pss_one (ps_ret (pe_and (pe_callB (cg_isiK K) (by rfl) T.n_isinstance (by decide +kernel) (pa_cons (pv 0) (pa_cons (pe_bltn (v := .ty "bool") (by rfl) T.n_bool (by decide +kernel) rfl) pa_nil))) (pe_and (pe_callB (cg_isiK K) (by rfl) T.n_isinstance (by decide +kernel) (pa_cons (pv 1) (pa_cons (pe_bltn (v := .ty "bool") (by rfl) T.n_bool (by decide +kernel) rfl) pa_nil))) (pe_one (pe_cmpR op_eq (pv 0) (pv 1) (nomark _))))))) pss_nil)
      (pss_cons (ps_if (PW.pt (pw_or (pt_val (pe_callB (cg_isiTK K) (by rfl) T.n_isinstance (by decide +kernel) (pa_cons (pv 0) (pa_cons (pe_tup (pa_cons (pe_bltn (v := .ty "list") (by rfl) T.n_list (by decide +kernel) rfl) (pa_cons (pe_bltn (v := .ty "tuple") (by rfl) T.n_tuple (by decide +kernel) rfl) pa_nil))) pa_nil)))) (pw_or1 (pt_cmpR op_ne (pe_callB (cg_isiK K) (by rfl) T.n_isinstance (by decide +kernel) (pa_cons (pv 0) (pa_cons (pe_bltn (v := .ty "str") (by rfl) T.n_str (by decide +kernel) rfl) pa_nil))) (pe_callB (cg_isiK K) (by rfl) T.n_isinstance (by decide +kernel) (pa_cons (pv 1) (pa_cons (pe_bltn (v := .ty "str") (by rfl) T.n_str (by decide +kernel) rfl) pa_nil))) (nomark _)))))
      (pss_one (ps_ret pe_bl)) pss_nil)
      (pss_one (ps_ret (pe_and (pe_cmpR op_eq (pe_callB (cg_isiK K) (by rfl) T.n_isinstance (by decide +kernel) (pa_cons (pv 0) (pa_cons (pe_bltn (v := .ty "int") (by rfl) T.n_int (by decide +kernel) rfl) pa_nil))) (pe_callB (cg_isiK K) (by rfl) T.n_isinstance (by decide +kernel) (pa_cons (pv 1) (pa_cons (pe_bltn (v := .ty "int") (by rfl) T.n_int (by decide +kernel) rfl) pa_nil))) (nomark _)) (pe_one (pe_cmpR op_eq (pv 0) (pv 1) (nomark _)))))))))), ?_⟩
    cases hx with
    | int i =>
      cases hy
      walk_at "go"
      rw [decide_eq_true (rfl : V.int i = V.int i)]
      exact k _ (by walk_at "hpS")
    | bl i =>
      cases hy
      walk_at "go"
      rw [decide_eq_true (rfl : V.bl i = V.bl i)]
      exact k _ (by walk_at "hpS")
    | str i =>
      cases hy
      walk_at "go"
      rw [decide_eq_true (rfl : V.str i = V.str i)]
      exact k _ (by walk_at "hpS")
    | non =>
      cases hy
      walk_at "go"
      exact k _ (by walk_at "hpS")
    | _ => exact ho.elim
theorem ok_like {n m : Nat} (F : Fun K "_law_like" "_law_like" s_l_like f fd) (T : Blt mg) (D_l_like : Df P w K mg base m "_law_like" f ["_law_found", "_law_due"] (spLike n)) : FnOk P w K mg base CX0 (m + 1) f fd ["_law_found", "_law_due"] (spLike (n + 1)) := by
  obtain ⟨_, G_l_like, B_l_like⟩ := D_l_like.ok
  refine F.ok sc_l_like (fun vs H Q E h => ?_) (fun cdv A outer s H vs Q E hr h => ?_)
  · obtain ⟨x, y, d, rfl, _⟩ := h
    rfl
  · obtain ⟨x, y, d, rfl, hx, hy, ho, k⟩ := h
    refine ⟨_, (pss_cons (ps_if (pt_val (pe_callB (cg_isiTK K) (by rfl) T.n_isinstance (by decide +kernel) (pa_cons (pv 1) (pa_cons (pe_tup (pa_cons (pe_bltn (v := .ty "list") (by rfl) T.n_list (by decide +kernel) rfl) (pa_cons (pe_bltn (v := .ty "tuple") (by rfl) T.n_tuple (by decide +kernel) rfl) pa_nil))) pa_nil))))
      (pss_cons (ps_if (PW.pt (pw_or (pt_cmpR op_ne (pe_callB (cg_isiK K) (by rfl) T.n_isinstance (by decide +kernel) (pa_cons (pv 0) (pa_cons (pe_bltn (v := .ty "list") (by rfl) T.n_list (by decide +kernel) rfl) pa_nil))) (pe_callB (cg_isiK K) (by rfl) T.n_isinstance (by decide +kernel) (pa_cons (pv 1) (pa_cons (pe_bltn (v := .ty "list") (by rfl) T.n_list (by decide +kernel) rfl) pa_nil))) (nomark _)) (pw_or1 (pt_cmpR op_ne (pe_callB (cg_isiK K) (by rfl) T.n_isinstance (by decide +kernel) (pa_cons (pv 0) (pa_cons (pe_bltn (v := .ty "tuple") (by rfl) T.n_tuple (by decide +kernel) rfl) pa_nil))) (pe_callB (cg_isiK K) (by rfl) T.n_isinstance (by decide +kernel) (pa_cons (pv 1) (pa_cons (pe_bltn (v := .ty "tuple") (by rfl) T.n_tuple (by decide +kernel) rfl) pa_nil))) (nomark _)))))
      (pss_one (ps_ret pe_bl)) pss_nil)
      (pss_one (ps_ret (pe_and (pe_cmpR op_eq (pe_callB (cg_lenK K) (by rfl) T.n_len (by decide +kernel) (pa_cons (pv 0) pa_nil)) (pe_callB (cg_lenK K) (by rfl) T.n_len (by decide +kernel) (pa_cons (pv 1) pa_nil)) (nomark _)) (pe_one (pe_callB (cr_allK K rfl) (by rfl) T.n_all (by decide +kernel) (pa_cons (pe_lc (own := [("_law_one", 2), ("_law_two", 3)]) (g := gTup K 2 (gCons (gName 2) (gCons (gName 3) gNil))) (tt := tYes) rfl sc_l_like.nd (RZ.pi_zipA (by rfl) T.n_zip (pa_cons (pv 0) (pa_cons (pv 1) pa_nil))) (blkOk_by (N := ["_law_found", "_law_due", "_law_one", "_law_two"]) (sc := defScope s_l_like) (by decide +kernel)) (fun _ _ _ _ _ => by exact pg_tup rfl (pgs_cons (pg_name (i := 2) sc_l_like.nd rfl (.inl rfl) (.inr rfl)) (pgs_cons (pg_name (i := 3) sc_l_like.nd rfl (.inl rfl) (.inr rfl)) pgs_nil))) (fun _ _ _ _ _ => pts_nil) (fun _ _ _ _ _ => (pe_call G_l_like hr (by rfl) D_l_like.g D_l_like.kp B_l_like .nil pass0 (pa_cons (pv 2) (pa_cons (pv 3) pa_nil))))) pa_nil))))))) pss_nil)
      (pss_cons (ps_if (PW.pt (pw_or (pt_cmpR og_isN (pv 1) pe_non (nomark _)) (pw_or1 (pt_cmpR og_isN (pv 0) pe_non (nomark _)))))
      (pss_one (ps_ret (pe_and (pe_cmpR og_isN (pv 1) pe_non (nomark _)) (pe_one (pe_cmpR og_isN (pv 0) pe_non (nomark _)))))) pss_nil)
      (pss_cons (ps_if (PW.pt (pw_or (pt_val (pe_callB (cg_isiK K) (by rfl) T.n_isinstance (by decide +kernel) (pa_cons (pv 1) (pa_cons (pe_bltn (v := .ty "bool") (by rfl) T.n_bool (by decide +kernel) rfl) pa_nil)))) (pw_or1 (pt_val (pe_callB (cg_isiK K) (by rfl) T.n_isinstance (by decide +kernel) (pa_cons (pv 0) (pa_cons (pe_bltn (v := .ty "bool") (by rfl) T.n_bool (by decide +kernel) rfl) pa_nil)))))))
      (pss_one (ps_ret (pe_and (pe_callB (cg_isiK K) (by rfl) T.n_isinstance (by decide +kernel) (pa_cons (pv 0) (pa_cons (pe_bltn (v := .ty "bool") (by rfl) T.n_bool (by decide +kernel) rfl) pa_nil))) (pe_and (pe_callB (cg_isiK K) (by rfl) T.n_isinstance (by decide +kernel) (pa_cons (pv 1) (pa_cons (pe_bltn (v := .ty "bool") (by rfl) T.n_bool (by decide +kernel) rfl) pa_nil))) (pe_one (pe_cmpR op_eq (pv 0) (pv 1) (nomark _))))))) pss_nil)
      (pss_cons (ps_if (PW.pt (pw_or (pt_val (pe_callB (cg_isiTK K) (by rfl) T.n_isinstance (by decide +kernel) (pa_cons (pv 0) (pa_cons (pe_tup (pa_cons (pe_bltn (v := .ty "list") (by rfl) T.n_list (by decide +kernel) rfl) (pa_cons (pe_bltn (v := .ty "tuple") (by rfl) T.n_tuple (by decide +kernel) rfl) pa_nil))) pa_nil)))) (pw_or1 (pt_cmpR op_ne (pe_callB (cg_isiK K) (by rfl) T.n_isinstance (by decide +kernel) (pa_cons (pv 0) (pa_cons (pe_bltn (v := .ty "str") (by rfl) T.n_str (by decide +kernel) rfl) pa_nil))) (pe_callB (cg_isiK K) (by rfl) T.n_isinstance (by decide +kernel) (pa_cons (pv 1) (pa_cons (pe_bltn (v := .ty "str") (by rfl) T.n_str (by decide +kernel) rfl) pa_nil))) (nomark _)))))
      (pss_one (ps_ret pe_bl)) pss_nil)
      (pss_one (ps_ret (pe_and (pe_cmpR op_eq (pe_callB (cg_isiK K) (by rfl) T.n_isinstance (by decide +kernel) (pa_cons (pv 0) (pa_cons (pe_bltn (v := .ty "int") (by rfl) T.n_int (by decide +kernel) rfl) pa_nil))) (pe_callB (cg_isiK K) (by rfl) T.n_isinstance (by decide +kernel) (pa_cons (pv 1) (pa_cons (pe_bltn (v := .ty "int") (by rfl) T.n_int (by decide +kernel) rfl) pa_nil))) (nomark _)) (pe_one (pe_cmpR op_eq (pv 0) (pv 1) (nomark _)))))))))), ?_⟩
    cases hx with
    | int i =>
      cases hy
      walk_at "go"
      rw [decide_eq_true (rfl : V.int i = V.int i)]
      exact k _ (by walk_at "hpS")
    | bl i =>
      cases hy
      walk_at "go"
      rw [decide_eq_true (rfl : V.bl i = V.bl i)]
      exact k _ (by walk_at "hpS")
    | str i =>
      cases hy
      walk_at "go"
      rw [decide_eq_true (rfl : V.str i = V.str i)]
      exact k _ (by walk_at "hpS")
    | non =>
      cases hy
      walk_at "go"
      exact k _ (by walk_at "hpS")
    | @lst a xs ds ha hd =>
      cases hy with
      | @lst b ys _ hb he =>
        have l1 := hd.length
        have l2 := he.length
        have lc : V.int (xs.length : Int) = V.int (ys.length : Int) := by rw [l1, l2]
        have hl := ho.1
        walk_at "go"
        refine ⟨_, _, xs, ys, rfl, .inl ⟨by walk_at "hpL", by walk_at "hpL", fun D hD => ?_⟩⟩
        rename_i tp ntp
        have s0 := same_new (o := .tup [V.ty "list", V.ty "tuple"]) ntp
        generalize upd H tp (.tup [V.ty "list", V.ty "tuple"]) = H1 at s0 hD
        refine lcV (walk_zip (K := K) (a := a) (b := b) (xs := xs) (ys := ys) (n := ds.length) (by rw [l1, l2, Nat.min_self])) hD (fun _ => .bl true) (by omega) (fun H2 s => ⟨SqL.of (s _ _ (s0 _ _ ha)), SqL.of (s _ _ (s0 _ _ hb))⟩) (fun i y H2 H2' hi s y' Kt kt => ?_) (fun H' s hH => ?_) gm_pair
        · obtain ⟨t, x1, x2, rfl, nt, rfl, g1, g2⟩ := y'
          have hdi : ds[i]? = some ds[i] := List.getElem?_eq_getElem hi
          have q1 := (DqAll.at2 hd g1 hdi).same ((s0.trans s).trans (same_new (o := .tup [x1, x2]) nt))
          have q2 := (DqAll.at2 he g2 hdi).same ((s0.trans s).trans (same_new (o := .tup [x1, x2]) nt))
          refine g_wipe2 (SqT.of upd_same) rfl ?_
          walk_at "go"
          refine sp_like q1 q2 (ho.2 _ (List.getElem_mem hi)) fun H5 s5 => ?_
          exact kt _ ((same_new nt).trans s5)
        · walk_at "go"
          refine g_all (bs := List.replicate ds.length true) ?_ (SqL.of ?_)
          · have e : (List.replicate ds.length true).all id = true := by simp
            rw [e]
            exact k _ (s0.trans s)
          · rw [hH, List.map_replicate]
            exact congrArg (fun z => some (HO.lst z)) (by rw [List.map_const', List.length_range])
    | @tup a xs ds ha hd =>
      cases hy with
      | @tup b ys _ hb he =>
        have l1 := hd.length
        have l2 := he.length
        have lc : V.int (xs.length : Int) = V.int (ys.length : Int) := by rw [l1, l2]
        have hl := ho.1
        walk_at "go"
        refine ⟨_, _, xs, ys, rfl, .inr ⟨by walk_at "hpT", by walk_at "hpT", fun D hD => ?_⟩⟩
        rename_i tp ntp
        have s0 := same_new (o := .tup [V.ty "list", V.ty "tuple"]) ntp
        generalize upd H tp (.tup [V.ty "list", V.ty "tuple"]) = H1 at s0 hD
        refine lcV (walk_zipT (K := K) (a := a) (b := b) (xs := xs) (ys := ys) (n := ds.length) (by rw [l1, l2, Nat.min_self])) hD (fun _ => .bl true) (by omega) (fun H2 s => ⟨SqT.of (s _ _ (s0 _ _ ha)), SqT.of (s _ _ (s0 _ _ hb))⟩) (fun i y H2 H2' hi s y' Kt kt => ?_) (fun H' s hH => ?_) gm_pair
        · obtain ⟨t, x1, x2, rfl, nt, rfl, g1, g2⟩ := y'
          have hdi : ds[i]? = some ds[i] := List.getElem?_eq_getElem hi
          have q1 := (DqAll.at2 hd g1 hdi).same ((s0.trans s).trans (same_new (o := .tup [x1, x2]) nt))
          have q2 := (DqAll.at2 he g2 hdi).same ((s0.trans s).trans (same_new (o := .tup [x1, x2]) nt))
          refine g_wipe2 (SqT.of upd_same) rfl ?_
          walk_at "go"
          refine sp_like q1 q2 (ho.2 _ (List.getElem_mem hi)) fun H5 s5 => ?_
          exact kt _ ((same_new nt).trans s5)
        · walk_at "go"
          refine g_all (bs := List.replicate ds.length true) ?_ (SqL.of ?_)
          · have e : (List.replicate ds.length true).all id = true := by simp
            rw [e]
            exact k _ (s0.trans s)
          · rw [hH, List.map_replicate]
            exact congrArg (fun z => some (HO.lst z)) (by rw [List.map_const', List.length_range])
end
end Ko


namespace Ko
open PySem L2 PySem.Spec PyProof.Rows Xm
def spLow : Sp := fun vs H Q _ => ∃ t n d, vs = [.ref t] ∧ H t = some (.tup [.int n, .int d]) ∧ 0 < d ∧ d.natAbs < 2 ^ 8900 ∧ Ret H Q (low n d)
def spLop (op : Pq → Pq → Pq) : Sp := fun vs H Q _ => ∃ t u p q, vs = [.ref t, .ref u] ∧ H t = some (.tup [.int p.1, .int p.2]) ∧ H u = some (.tup [.int q.1, .int q.2]) ∧ 0 < p.2 ∧ 0 < q.2 ∧ Sz 4400 p ∧ Sz 4400 q ∧ Ret H Q (op p q)
def spLtext : Sp := fun vs H Q _ => ∃ t q, vs = [.ref t] ∧ H t = some (.tup [.int q.1, .int q.2]) ∧ q.1.natAbs < 10 ^ 64 ∧ q.2.natAbs < 10 ^ 64 ∧ Q (.str (txt q)) H
def Dt.lawNum : Dt → Bool
  | .tup [.int n, .int d] => decide (0 < d) && decide (Int.gcd n d = 1)
  | _ => false
def Dt.fits : Dt → Prop
  | .tup [.int _, .int d] => d.natAbs < 2 ^ 8900
  | _ => True
def spLnum : Sp := fun vs H Q _ => ∃ v d, vs = [v] ∧ Dq H v d ∧ d.fits ∧ ∀ H', Same H H' → Q (.bl d.lawNum) H'
def spSorted (K : Fg) : Sp := fun vs H Q _ => ∃ a xs qs, vs = [.ref a] ∧ SqL K H a xs ∧ Paired (Pr H) xs qs ∧ Gds qs ∧ xs.length ≤ 1000 ∧
  ∀ (D : Addr) (H' : Hp) (ys : List V), Same H H' → H D = none → H' D = some (.lst ys) → Paired (Pr H') ys (ord qs) → Q (.ref D) H'
def spOwn : Sp := fun vs H Q _ => ∃ v d, vs = [v] ∧ Dq H v d ∧ d.fits ∧ ∀ H', Same H H' → Q (.bl d.isNum) H'
section
variable {H : Hp} {Q : VK} {E : XK} {t u : Addr} {p q : Pq} {v : V} {d : Dt}
theorem sp_low {n d : Int} (h : H t = some (.tup [.int n, .int d])) (k : Ret H Q (low n d)) (h0 : 0 < d) (s : d.natAbs < 2 ^ 8900) : spLow [.ref t] H Q E := ⟨t, n, d, rfl, h, h0, s, k⟩
theorem sp_lop {op : Pq → Pq → Pq} (h : H t = some (.tup [.int p.1, .int p.2])) (h' : H u = some (.tup [.int q.1, .int q.2])) (k : Ret H Q (op p q)) (h0 : 0 < p.2) (h1 : 0 < q.2) (sp : Sz 4400 p) (sq : Sz 4400 q) : spLop op [.ref t, .ref u] H Q E := ⟨t, u, p, q, rfl, h, h', h0, h1, sp, sq, k⟩
theorem sp_ltext (h : H t = some (.tup [.int q.1, .int q.2])) (k : Q (.str (txt q)) H) (h0 : q.1.natAbs < 10 ^ 64) (h1 : q.2.natAbs < 10 ^ 64) : spLtext [.ref t] H Q E := ⟨t, q, rfl, h, h0, h1, k⟩
theorem sp_lnum (h : Dq H v d) (hf : d.fits) (k : ∀ H', Same H H' → Q (.bl d.lawNum) H') : spLnum [v] H Q E := ⟨v, d, rfl, h, hf, k⟩
end
theorem gcd_step {b s : Int} (hb : 0 ≤ b) (hs : 0 < s) : Int.gcd s (b % s) = Int.gcd b s := by
  obtain ⟨b, rfl⟩ := Int.eq_ofNat_of_zero_le hb
  obtain ⟨s, rfl⟩ := Int.eq_ofNat_of_zero_le (Int.le_of_lt hs)
  show Nat.gcd s (b % s) = Nat.gcd b s
  rw [Nat.gcd_comm s, ← Nat.gcd_rec, Nat.gcd_comm]
theorem paired_ins {α β : Type} {F : α → β → Prop} {y : α} {q : β} (h : F y q) : ∀ {i : Nat} {xs : List α} {qs : List β}, Paired F xs qs → i ≤ xs.length → Paired F (xs.take i ++ [y] ++ xs.drop i) (qs.insertIdx i q)
  | 0, _, _, hp, _ => .cons h hp
  | _ + 1, _, _, .cons h1 r, hi => .cons h1 (paired_ins h r (Nat.le_of_succ_le_succ hi))
  | _ + 1, _, _, .nil, hi => absurd hi (Nat.not_succ_le_zero _)
theorem filter_len (f : Pq → Bool) (qs : List Pq) : ((List.range qs.length).filter fun k => f ((qs[k]?).getD (0, 1))).length = (qs.filter f).length := by
  have e : qs = (List.range qs.length).map fun k => (qs[k]?).getD (0, 1) := by
    have := range_map (fun q : Pq => q) qs (0, 1)
    simpa using this.symm
  conv => rhs; rw [e, List.filter_map, List.length_map]
  rfl
theorem ord_take {q : Pq} {qs : List Pq} {i : Nat} (h : qs[i]? = some q) : ord (qs.take (i + 1)) = ins (ord (qs.take i)) q := by
  rw [List.take_add_one, h]
  show (qs.take i ++ [q]).foldl _ [] = _
  rw [List.foldl_append]
  rfl

local macro_rules | `(tactic| walk_at "hpS") => `(tactic| with_reducible first
  | exact Same.refl _
  | assumption
  | (refine' Same.trans ?hq (same_new (by assumption)); (case hq => walk_at "hpS"))
  | (refine' Same.trans ?hq (by assumption); (case hq => walk_at "hpS"))
  | fail)
local macro_rules | `(tactic| walk_at "hpH") => `(tactic| with_reducible first
  | assumption
  | exact upd_same
  | (refine' same_at (same_new (by assumption)) ?hq; (case hq => walk_at "hpH"))
  | (refine' same_at (by assumption) ?hq; (case hq => walk_at "hpH"))
  | fail)
local macro_rules | `(tactic| walk_at "hpTo") => `(tactic| with_reducible first
  | assumption
  | (refine' sq_t (same_new (by assumption)) ?hq; (case hq => walk_at "hpTo"))
  | (refine' sq_t (by assumption) ?hq; (case hq => walk_at "hpTo"))
  | fail)
local macro_rules | `(tactic| walk_at "hpT") => `(tactic| with_reducible first
  | (refine' SqT.of ?hq; (case hq => walk_at "hpH"))
  | walk_at "hpTo"
  | fail)
local macro_rules | `(tactic| walk_at "hpLo") => `(tactic| with_reducible first
  | assumption
  | (refine' sq_l (same_new (by assumption)) ?hq; (case hq => walk_at "hpLo"))
  | (refine' sq_l (by assumption) ?hq; (case hq => walk_at "hpLo"))
  | fail)
local macro_rules | `(tactic| walk_at "hpL") => `(tactic| with_reducible first
  | (refine' SqL.of ?hq; (case hq => walk_at "hpH"))
  | walk_at "hpLo"
  | fail)
local macro_rules | `(tactic| walk_at "kit") => `(tactic| with_reducible first
  | exact kit_int_bool | exact kit_int_int | exact kit_int_tuple | exact kit_int_list | exact kit_int_str
  | exact kit_tuple_tuple | exact kit_tuple_int | exact kit_tuple_bool | exact kit_tuple_list | exact kit_tuple_str
  | exact kit_bool_bool | exact kit_bool_int | exact kit_bool_tuple | exact kit_bool_list | exact kit_bool_str
  | exact kit_str_str | exact kit_str_int | exact kit_str_bool | exact kit_str_tuple | exact kit_str_list
  | exact kit_NoneType_int | exact kit_NoneType_bool | exact kit_NoneType_tuple | exact kit_NoneType_list | exact kit_NoneType_str
  | exact kit_list_list | exact kit_list_tuple | exact kit_list_int | exact kit_list_bool | exact kit_list_str
  | fail)
local macro_rules | `(tactic| walk_at "call") => `(tactic| fail)
local macro_rules | `(tactic| walk_at "s0") => `(tactic| with_reducible first
  | refine g_seq ?_ | refine g_asg ?_ | refine g_name ?_ | refine g_ifS ?_ | refine g_ret ?_ | refine g_retN ?_ | refine g_next ?_
  | refine g_par ?_ | refine g_parE ?_ | refine g_drop ?_
  | refine g_c ?_ | refine g_op ?_ | refine g_un ?_ | refine g_cb ?_ | refine g_call ?_ | refine g_nil ?_ | refine g_cons ?_ | refine g_tup ?_ | refine g_lst ?_
  | refine g_test ?_ | refine g_B ?_ | refine g_blF ?_ | refine g_and ?_ | refine g_or ?_ | refine g_not ?_ | refine g_andV ?_ | refine g_orV ?_ | refine g_notV ?_ | refine g_if ?_
  | refine iteT ?_ | refine iteF ?_
  | refine g_chain ?_ | refine g_sl ?_ | refine g_noPart ?_ | refine g_part ?_ | refine g_partI ?_ | refine g_slS ?_ ?side | refine g_M1 ?_ | refine g_M1s ?_ | refine g_starts ?_ | refine g_bm ?_ | refine g_bm0 ?_ | refine g_tyS ?_
  | refine g_Fs ?_ | refine g_JsN ?_ | refine g_JsC ?_ | refine g_JsE ?_ ?side | refine g_fmt ?_ | refine g_fmtI ?_ ?side | refine g_fmtS ?_ ?side | refine g_iList ?_ | refine g_iTup ?_ | refine g_iStr ?_ | refine g_iStrE ?_ | refine g_iRng1 ?_ | refine g_iRng1E ?_ ?side1 ?side2 | refine g_yes ?_ | refine g_ckw ?_ | refine g_dget ?_ | refine g_dictZip ?_ | refine g_gCons ?_ | refine g_gNil ?_ | refine g_revL ?_ | refine g_for ?_ | refine g_lc ?_ | refine g_addS ?_ ?side | refine g_str ?_ ?side | refine g_lenS ?_ ?side
  | refine g_rI0 ?_ | refine g_rI ?_ ?side | refine g_rU ?_ | refine g_abs ?_ | refine g_int ?_ | refine g_intB ?_ | refine g_gcd ?_ | refine g_inS ?_ | refine g_isN0 ?_ | refine g_notN0 ?_
  | fail)
local macro_rules | `(tactic| walk_at "s1") => `(tactic| first
  | ((with_reducible refine' g_var ?h ?_); (case h => exact rfl))
  | ((with_reducible refine' g_new ?h ?_); (case h => exact (by simp only [List.length_cons, List.length_nil]; decide)); intro tnew htnew)
  | ((with_reducible refine' iteDT ?h ?_); (case h => first | exact rfl | assumption))
  | ((with_reducible refine' iteNT ?h ?_); (case h => first | exact rfl | assumption))
  | ((with_reducible refine' iteDF ?h ?_); (case h => first | assumption | (intro z; cases z)))
  | ((with_reducible refine' iteNF ?h ?_); (case h => first | assumption | (intro z; cases z)))
  | ((with_reducible refine' g_eq ?_ ?h); (case h => exact rfl))
  | ((with_reducible refine' g_ne ?_ ?h); (case h => exact rfl))
  | ((with_reducible refine' g_ixT ?_ ?h ?e); (case h => walk_at "hpT"); (case e => first | exact rfl | exact atI_0 | exact atI_1))
  | ((with_reducible refine' g_ixL ?_ ?h ?e); (case h => walk_at "hpL"); (case e => first | exact rfl | exact atI_0 | exact atI_1))
  | ((with_reducible refine' g_isi_int ?_ ?h); (case h => walk_at "kit"))
  | ((with_reducible refine' g_isi_str ?_ ?h); (case h => walk_at "kit"))
  | ((with_reducible refine' g_isi_bl ?_ ?h); (case h => walk_at "kit"))
  | ((with_reducible refine' g_isi_non ?_ ?h); (case h => walk_at "kit"))
  | ((with_reducible refine' g_isi_t ?_ ?t ?h); (case t => walk_at "hpT"); (case h => walk_at "kit"))
  | ((with_reducible refine' g_isi_l ?_ ?t ?h ?l); (case l => walk_at "hpH"); (case t => walk_at "hpL"); (case h => walk_at "kit"))
  | ((with_reducible refine' g_lenT ?_ ?h); (case h => walk_at "hpT"))
  | ((with_reducible refine' g_lenL ?_ ?h); (case h => walk_at "hpL"))
  | ((with_reducible refine' g_split ?_ ?h ?side); (case h => exact rfl); intro pnew hpnew)
  | ((with_reducible refine' g_slL ?h ?_); (case h => walk_at "hpL"); intro pnew hpnew)
  | ((with_reducible refine' g_iListE ?_ ?h); (case h => walk_at "hpL"))
  | ((with_reducible refine' g_iTupE ?_ ?h); (case h => walk_at "hpT"))
  | ((with_reducible refine' g_tyL ?_ ?h); (case h => walk_at "hpL"))
  | ((with_reducible refine' g_join ?_ ?h ?side); (case h => walk_at "hpL"))
  | ((with_reducible refine' g_append ?_ ?h ?side); (case h => walk_at "hpH"))
  | ((with_reducible refine' g_all ?_ ?h); (case h => walk_at "hpL"))
  | ((with_reducible refine' g_gTup ?_ ?h ?n); (case h => walk_at "hpT"); (case n => exact rfl))
  | ((with_reducible refine' g_revLE ?h ?_); (case h => walk_at "hpL"); intro pnew hpnew)
  | ((with_reducible refine' g_isN1 ?_ ?h); (case h => first | assumption | (intro z; cases z)))
  | ((with_reducible refine' g_notN1 ?_ ?h); (case h => first | assumption | (intro z; cases z)))
  | walk_at "call"
  | ((with_reducible refine' iteBT ?h ?_); (case h => first | assumption | exact rfl))
  | ((with_reducible refine' iteBF ?h ?_); (case h => first | assumption | exact rfl))
  | fail)
local macro_rules | `(tactic| walk_at "nrm") => `(tactic| simp only [Bool.not_true, Bool.not_false, decide_eq_true_eq, decide_true, decide_false, Bool.true_and, Bool.false_and, Bool.and_true, Bool.and_false, V.int.injEq, V.bl.injEq, V.str.injEq, List.length_cons, List.length_nil, Bool.not_eq_true', decide_eq_false_iff_not, Int.not_lt, Int.not_le, reduceCtorEq, not_false_eq_true, not_true_eq_false, Decidable.not_not] at *)
local macro_rules | `(tactic| walk_at "sp") => `(tactic| ((with_reducible refine ite2 (fun c => ?_) (fun c => ?_)) <;> (try simp only [decide_eq_true_eq, Bool.not_eq_true', decide_eq_false_iff_not, V.int.injEq, V.bl.injEq, V.str.injEq, Int.not_lt, Int.not_le, reduceCtorEq, Decidable.not_not, Bool.false_eq_true, Bool.true_eq_false] at c) <;> (try (exfalso; omega))))
local macro_rules | `(tactic| walk_at "s") => `(tactic| first | walk_at "s0" | walk_at "s1" | fail)
local macro_rules | `(tactic| walk_at "go") => `(tactic| (try dsimp only [cxK, cxK']); repeat' walk_at "s")
local macro_rules | `(tactic| walk_at "gos") => `(tactic| ((try dsimp only [cxK, cxK']); repeat' (first | walk_at "s" | walk_at "sp" | fail)))

local macro_rules | `(tactic| walk_at "hpNo") => `(tactic| with_reducible first
  | assumption
  | (refine' Nm.ofPr ?hq; (case hq => assumption))
  | (refine' Nm.same (same_new (by assumption)) ?hq; (case hq => walk_at "hpNo"))
  | (refine' Nm.same (by assumption) ?hq; (case hq => walk_at "hpNo"))
  | fail)
local macro_rules | `(tactic| walk_at "hpN") => `(tactic| with_reducible first
  | walk_at "hpNo"
  | (refine' Nm.of ?hq; (case hq => walk_at "hpH"))
  | fail)
local macro_rules | `(tactic| walk_at "hpPo") => `(tactic| with_reducible first
  | assumption
  | (refine' Pr.same (same_new (by assumption)) ?hq; (case hq => walk_at "hpPo"))
  | (refine' Pr.same (by assumption) ?hq; (case hq => walk_at "hpPo"))
  | fail)
local macro_rules | `(tactic| walk_at "hpP") => `(tactic| with_reducible first
  | walk_at "hpPo"
  | (refine' Pr.of ?hq; (case hq => walk_at "hpH"))
  | fail)
local macro_rules | `(tactic| walk_at "hpDo") => `(tactic| with_reducible first
  | assumption
  | exact Dq.int _ | exact Dq.bl _ | exact Dq.str _ | exact Dq.non
  | (refine' Dq.same (same_new (by assumption)) ?hq; (case hq => walk_at "hpDo"))
  | (refine' Dq.same (by assumption) ?hq; (case hq => walk_at "hpDo"))
  | fail)
local macro_rules | `(tactic| walk_at "hpD") => `(tactic| with_reducible first
  | walk_at "hpDo"
  | fail)

local macro_rules | `(tactic| walk_at "call") => `(tactic| first
  | ((with_reducible refine' sp_low ?h ?_ ?side1 ?side2); (case h => walk_at "hpH"); intro tp Hp' sp' hp')
  | ((with_reducible refine' sp_below ?h1 ?h2 ?s1 ?s2 ?_); (case h1 => walk_at "hpP"); (case h2 => walk_at "hpP"); (case s1 => assumption); (case s2 => assumption))
  | ((with_reducible refine' g_eqP ?_ ?h1 ?h2); (case h1 => walk_at "hpP"); (case h2 => walk_at "hpP"))
  | ((with_reducible refine' sp_lnum ?h ?s ?_); (case h => walk_at "hpD"); (case s => assumption); intro Hn' sn')
  | fail)
section
variable {P : Program} {w : World} {K : Fg} {mg : Str → Option Value} {base : Heap} {f f1 f2 f3 : Addr} {fd : FuncData}
theorem ok_l_low (F : Fun K "_law_low" "_law_low" s_l_low f fd) (T : Blt mg) : FnOk P w K mg base CX0 1 f fd ["_law_one"] spLow := by
  refine F.ok sc_l_low (fun vs H Q E h => ?_) (fun cdv A outer s H vs Q E hr h => ?_)
  · obtain ⟨t, n, d, rfl, _⟩ := h
    rfl
  · obtain ⟨t, n, d, rfl, ht, d0, sd, k⟩ := h
    refine ⟨_, (pss_cons (ps_par (i := 1) (j := 2) rfl sc_l_low.nd rfl rfl (by decide) rfl rfl (pa_cons (pe_callB cg_abs (by rfl) T.n_abs (by decide +kernel) (pa_cons (pe_ix (ix_seqK K) (pv 0) pe_int (fun _ _ => rfl)) pa_nil)) (pa_cons (pe_ix (ix_seqK K) (pv 0) pe_int (fun _ _ => rfl)) pa_nil)) rfl)
      (pss_cons (ps_while PassesOwn.never (pt_cmpR op_gt (pv 2) pe_int (nomark _))
      (pss_one (ps_par (i := 1) (j := 2) rfl sc_l_low.nd rfl rfl (by decide) rfl rfl (pa_cons (pv 2) (pa_cons (pe_op op_mod (pe_callTy cg_int (by rfl) T.n_int (by decide +kernel) (pa_cons (pv 1) pa_nil)) (pv 2)) pa_nil)) rfl)))
      (pss_one (ps_ret (pe_tup (pa_cons (pe_op op_fdivW (pe_ix (ix_seqK K) (pv 0) pe_int (fun _ _ => rfl)) (pv 1)) (pa_cons (pe_op op_fdivW (pe_ix (ix_seqK K) (pv 0) pe_int (fun _ _ => rfl)) (pv 1)) pa_nil))))))), ?_⟩
    walk_at "go"
    refine ⟨fun m σ' H' => ∃ b s : Int, σ' = [some (.ref t), some (.int b), some (.int s)] ∧ 0 ≤ b ∧ 0 ≤ s ∧ 0 < b + s ∧ Int.gcd b s = Int.gcd n d ∧ m = s.toNat ∧ H' = H, ⟨d.toNat, _, d, rfl, ?_, by omega, ?_, ?_, rfl, rfl⟩, fun m σ H' hW => ?_⟩
    · split <;> omega
    · split <;> omega
    · split
      · exact Int.neg_gcd
      · rfl
    · obtain ⟨b, s, rfl, b0, s0, bs, hg, rfl, rfl⟩ := hW
      walk_at "go"
      refine ite2 (fun c => ?_) (fun c => ?_)
      · have c := of_decide_eq_true c
        refine ⟨fun σ'' H'' => ∃ m', m' < s.toNat ∧ ∃ b s : Int, σ'' = [some (.ref t), some (.int b), some (.int s)] ∧ 0 ≤ b ∧ 0 ≤ s ∧ 0 < b + s ∧ Int.gcd b s = Int.gcd n d ∧ m' = s.toNat ∧ H'' = H', fun σ' H'' z => z, ?_⟩
        walk_at "go"
        all_goals first
          | exact c
          | skip
        have y0 := Int.emod_nonneg b (b := s) (by omega)
        have y1 := Int.emod_lt_of_pos b c
        exact ⟨(b % s).toNat, by omega, s, b % s, rfl, by omega, y0, by omega, by rw [gcd_step b0 c]; exact hg, rfl, rfl⟩
      · have c : ¬ 0 < s := fun z => c (decide_eq_true z)
        obtain rfl : s = 0 := by omega
        have e : b = (Int.gcd n d : Nat) := by
          rw [← hg, Int.gcd_zero_right]
          omega
        subst e
        have dv : ∀ x : Int, CDivW x (Int.gcd n d : Nat) := fun x => wide_div (gcd_pos (by omega)) (Nat.lt_of_le_of_lt (gcd_le (by omega)) sd) (by decide) (by decide)
        walk_at "go"
        all_goals first
          | exact dv _
          | skip
        refine k _ _ ?_ ?_
        · walk_at "hpS"
        · exact upd_same
theorem ok_l_under (F : Fun K "_law_under" "_law_under" s_l_under f fd) (T : Blt mg) : FnOk P w K mg base CX0 1 f fd ["_law_one", "_law_two"] spBelow := by
  refine F.ok sc_l_under (fun vs H Q E h => ?_) (fun cdv A outer s H vs Q E hr h => ?_)
  · obtain ⟨x, y, p, q, rfl, _⟩ := h
    rfl
  · obtain ⟨x, y, p, q, rfl, ⟨t, rfl, ht⟩, ⟨u, rfl, hu⟩, ⟨sp1, sp2⟩, ⟨sq1, sq2⟩, k⟩ := h
    refine ⟨_, (pss_one (ps_ret (pe_cmpR op_lt (pe_op op_mulW (pe_ix (ix_seqK K) (pv 0) pe_int (fun _ _ => rfl)) (pe_ix (ix_seqK K) (pv 1) pe_int (fun _ _ => rfl))) (pe_op op_mulW (pe_ix (ix_seqK K) (pv 1) pe_int (fun _ _ => rfl)) (pe_ix (ix_seqK K) (pv 0) pe_int (fun _ _ => rfl))) (nomark _)))), ?_⟩
    walk_at "go"
    all_goals first
      | exact sz_mul (by assumption) (by assumption)
      | exact k
theorem ok_l_add (F : Fun K "_law_add" "_law_add" s_l_add f fd) (T : Blt mg) (D_l_low : Df P w K mg base 1 "_law_low" f1 ["_law_one"] spLow) : FnOk P w K mg base CX0 2 f fd ["_law_one", "_law_two"] (spLop add) := by
  obtain ⟨_, G_l_low, B_l_low⟩ := D_l_low.ok
  refine F.ok sc_l_add (fun vs H Q E h => ?_) (fun cdv A outer s H vs Q E hr h => ?_)
  · obtain ⟨t, u, p, q, rfl, _⟩ := h
    rfl
  · obtain ⟨t, u, p, q, rfl, ht, hu, p0, q0, ⟨sp1, sp2⟩, ⟨sq1, sq2⟩, k⟩ := h
    refine ⟨_, (pss_one (ps_ret (pe_call G_l_low (hr.mono (by decide)) (by rfl) D_l_low.g D_l_low.kp B_l_low .nil pass0 (pa_cons (pe_tup (pa_cons (pe_op op_add (pe_op op_mulW (pe_ix (ix_seqK K) (pv 0) pe_int (fun _ _ => rfl)) (pe_ix (ix_seqK K) (pv 1) pe_int (fun _ _ => rfl))) (pe_op op_mulW (pe_ix (ix_seqK K) (pv 1) pe_int (fun _ _ => rfl)) (pe_ix (ix_seqK K) (pv 0) pe_int (fun _ _ => rfl)))) (pa_cons (pe_op op_mulW (pe_ix (ix_seqK K) (pv 0) pe_int (fun _ _ => rfl)) (pe_ix (ix_seqK K) (pv 1) pe_int (fun _ _ => rfl))) pa_nil))) pa_nil)))), ?_⟩
    walk_at "go"
    all_goals first
      | exact sz_mul (by assumption) (by assumption)
      | exact sz_mulD (by assumption) (by assumption)
      | exact mul_pos' (by assumption) (by assumption)
      | skip
    refine k _ _ ?_ ?_
    · walk_at "hpS"
    · assumption
theorem ok_l_take (F : Fun K "_law_take" "_law_take" s_l_take f fd) (T : Blt mg) (D_l_low : Df P w K mg base 1 "_law_low" f1 ["_law_one"] spLow) : FnOk P w K mg base CX0 2 f fd ["_law_one", "_law_two"] (spLop sub) := by
  obtain ⟨_, G_l_low, B_l_low⟩ := D_l_low.ok
  refine F.ok sc_l_take (fun vs H Q E h => ?_) (fun cdv A outer s H vs Q E hr h => ?_)
  · obtain ⟨t, u, p, q, rfl, _⟩ := h
    rfl
  · obtain ⟨t, u, p, q, rfl, ht, hu, p0, q0, ⟨sp1, sp2⟩, ⟨sq1, sq2⟩, k⟩ := h
    refine ⟨_, (pss_one (ps_ret (pe_call G_l_low (hr.mono (by decide)) (by rfl) D_l_low.g D_l_low.kp B_l_low .nil pass0 (pa_cons (pe_tup (pa_cons (pe_op op_sub (pe_op op_mulW (pe_ix (ix_seqK K) (pv 0) pe_int (fun _ _ => rfl)) (pe_ix (ix_seqK K) (pv 1) pe_int (fun _ _ => rfl))) (pe_op op_mulW (pe_ix (ix_seqK K) (pv 1) pe_int (fun _ _ => rfl)) (pe_ix (ix_seqK K) (pv 0) pe_int (fun _ _ => rfl)))) (pa_cons (pe_op op_mulW (pe_ix (ix_seqK K) (pv 0) pe_int (fun _ _ => rfl)) (pe_ix (ix_seqK K) (pv 1) pe_int (fun _ _ => rfl))) pa_nil))) pa_nil)))), ?_⟩
    walk_at "go"
    all_goals first
      | exact sz_mul (by assumption) (by assumption)
      | exact sz_mulD (by assumption) (by assumption)
      | exact mul_pos' (by assumption) (by assumption)
      | skip
    refine k _ _ ?_ ?_
    · walk_at "hpS"
    · assumption
theorem ok_l_mul (F : Fun K "_law_mul" "_law_mul" s_l_mul f fd) (T : Blt mg) (D_l_low : Df P w K mg base 1 "_law_low" f1 ["_law_one"] spLow) : FnOk P w K mg base CX0 2 f fd ["_law_one", "_law_two"] (spLop mul) := by
  obtain ⟨_, G_l_low, B_l_low⟩ := D_l_low.ok
  refine F.ok sc_l_mul (fun vs H Q E h => ?_) (fun cdv A outer s H vs Q E hr h => ?_)
  · obtain ⟨t, u, p, q, rfl, _⟩ := h
    rfl
  · obtain ⟨t, u, p, q, rfl, ht, hu, p0, q0, ⟨sp1, sp2⟩, ⟨sq1, sq2⟩, k⟩ := h
    refine ⟨_, (pss_one (ps_ret (pe_call G_l_low (hr.mono (by decide)) (by rfl) D_l_low.g D_l_low.kp B_l_low .nil pass0 (pa_cons (pe_tup (pa_cons (pe_op op_mulW (pe_ix (ix_seqK K) (pv 0) pe_int (fun _ _ => rfl)) (pe_ix (ix_seqK K) (pv 1) pe_int (fun _ _ => rfl))) (pa_cons (pe_op op_mulW (pe_ix (ix_seqK K) (pv 0) pe_int (fun _ _ => rfl)) (pe_ix (ix_seqK K) (pv 1) pe_int (fun _ _ => rfl))) pa_nil))) pa_nil)))), ?_⟩
    walk_at "go"
    all_goals first
      | exact sz_mul (by assumption) (by assumption)
      | exact sz_mulD (by assumption) (by assumption)
      | exact mul_pos' (by assumption) (by assumption)
      | skip
    refine k _ _ ?_ ?_
    · walk_at "hpS"
    · assumption
theorem ok_l_text (F : Fun K "_law_text" "_law_text" s_l_text f fd) (T : Blt mg) : FnOk P w K mg base CX0 1 f fd ["_law_one"] spLtext := by
  refine F.ok sc_l_text (fun vs H Q E h => ?_) (fun cdv A outer s H vs Q E hr h => ?_)
  · obtain ⟨t, q, rfl, _⟩ := h
    rfl
  · obtain ⟨t, q, rfl, ht, n1, d1, k⟩ := h
    refine ⟨_, (pss_one (ps_ret (pe_ifExp (pt_cmpR op_eq (pe_ix (ix_seqK K) (pv 0) pe_int (fun _ _ => rfl)) pe_int (nomark _)) (pe_joined1 (pe_fmt (pe_ix (ix_seqK K) (pv 0) pe_int (fun _ _ => rfl)))) (pe_joinedN (.cons (pe_fmt (pe_ix (ix_seqK K) (pv 0) pe_int (fun _ _ => rfl))) (.cons pe_str (.cons (pe_fmt (pe_ix (ix_seqK K) (pv 0) pe_int (fun _ _ => rfl))) .nil))))))), ?_⟩
    by_cases c : q.2 = 1
    · have c' : V.int q.2 = V.int 1 := by rw [c]
      have e : txt q = Str.ofString (toString q.1) := by unfold txt; rw [if_pos c]
      rw [e] at k
      walk_at "go"
      all_goals first
        | exact log_of n1
        | skip
      exact k
    · have c' : ¬ V.int q.2 = V.int 1 := fun z => c (V.int.inj z)
      have e : txt q = Str.empty ++ Str.ofString (toString q.1) ++ "/" ++ Str.ofString (toString q.2) := by unfold txt; rw [if_neg c]
      rw [e] at k
      have l1 := len_int (k := 64) (by decide) n1
      have l2 := len_int (k := 64) (by decide) d1
      have hs : (sizeLine : Nat) = 16777216 := sizeLine_eq
      have e0 : (Str.empty).length = 0 := rfl
      have e3 : ("/" : Str).length = 1 := by decide +kernel
      have la : ∀ a b : Str, (a ++ b).length = a.length + b.length := fun a b => by
        rw [TL.len_tl, TL.len_tl, TL.len_tl, TL.tl_append, List.length_append]
      walk_at "go"
      all_goals first
        | exact log_of n1
        | exact log_of d1
        | (simp only [la]; omega)
        | omega
        | exact k
theorem ok_l_number (F : Fun K "_law_number" "_law_number" s_l_number f fd) (T : Blt mg) (D_l_low : Df P w K mg base 1 "_law_low" f1 ["_law_one"] spLow) : FnOk P w K mg base CX0 2 f fd ["_law_one"] spLnum := by
  obtain ⟨_, G_l_low, B_l_low⟩ := D_l_low.ok
  refine F.ok sc_l_number (fun vs H Q E h => ?_) (fun cdv A outer s H vs Q E hr h => ?_)
  · obtain ⟨v, d, rfl, _⟩ := h
    rfl
  · obtain ⟨v, d, rfl, hv, hf, k⟩ := h
    refine ⟨_, (pss_cons (ps_if (PW.pt (pw_or (pt_not (pt_val (pe_callB (cg_isiK K) (by rfl) T.n_isinstance (by decide +kernel) (pa_cons (pv 0) (pa_cons (pe_bltn (v := .ty "tuple") (by rfl) T.n_tuple (by decide +kernel) rfl) pa_nil))))) (pw_or1 (pt_cmpR op_ne (pe_callB (cg_lenK K) (by rfl) T.n_len (by decide +kernel) (pa_cons (pv 0) pa_nil)) pe_int (nomark _)))))
      (pss_one (ps_ret pe_bl)) pss_nil)
      (pss_cons (ps_if (pt_not (pt_val (pe_callB (cr_allK K rfl) (by rfl) T.n_all (by decide +kernel) (pa_cons (pe_lc (own := [("_law_part", 1)]) (g := gName 1) (tt := tYes) rfl sc_l_number.nd (pi_tup (pv 0)) (blkOk_by (N := ["_law_one", "_law_part"]) (sc := defScope s_l_number) (by decide +kernel)) (fun _ _ _ _ _ => pg_name (i := 1) sc_l_number.nd rfl (.inl rfl)) (fun _ _ _ _ _ => pts_nil) (fun _ _ _ _ _ => (pe_and (pe_callB (cg_isiK K) (by rfl) T.n_isinstance (by decide +kernel) (pa_cons (pv 1) (pa_cons (pe_bltn (v := .ty "int") (by rfl) T.n_int (by decide +kernel) rfl) pa_nil))) (pe_one (pe_not (pe_callB (cg_isiK K) (by rfl) T.n_isinstance (by decide +kernel) (pa_cons (pv 1) (pa_cons (pe_bltn (v := .ty "bool") (by rfl) T.n_bool (by decide +kernel) rfl) pa_nil)))))))) pa_nil))))
      (pss_one (ps_ret pe_bl)) pss_nil)
      (pss_one (ps_ret (pe_and (pe_cmpR op_gt (pe_ix (ix_seqK K) (pv 0) pe_int (fun _ _ => rfl)) pe_int (nomark _)) (pe_one (pe_cmpR (eqD_K K hr.units) (pe_call G_l_low (hr.mono (by decide)) (by rfl) D_l_low.g D_l_low.kp B_l_low .nil pass0 (pa_cons (pv 0) pa_nil)) (pv 0) (nomark _)))))))), ?_⟩
    have hv' := hv
    cases hv with
    | @tup a xs ds ha hd =>
      match ds, hd with
      | [], .nil => walk_at "go"; exact k _ (Same.refl _)
      | [x], .cons _ .nil =>
        have e : Dt.lawNum (.tup [x]) = false := by
          unfold Dt.lawNum
          split
          · rename_i z
            cases z
          · rfl
        rw [e] at k
        walk_at "go"
        exact k _ (Same.refl _)
      | x :: y :: z :: l, .cons _ (.cons _ (.cons _ r)) =>
        have e : Dt.lawNum (.tup (x :: y :: z :: l)) = false := by
          unfold Dt.lawNum
          split
          · rename_i z
            cases z
          · rfl
        rw [e] at k
        walk_at "go"
        exact k _ (Same.refl _)
      | [d1, d2], .cons (v := x1) h1 (.cons (v := x2) h2 .nil) =>
        walk_at "go"
        intro D hD
        refine lcV (walk_tup (K := K) (a := a) (xs := [x1, x2])) hD (fun i => .bl (([d1, d2][i]?.map Dt.isInt).getD false)) (Nat.le_of_ble_eq_true rfl) (fun H2 s => SqT.of (s _ _ ha)) (fun i y H2 H2' hi s y' Kt kt => ?_) (fun H' s hH => ?_) gm_name
        · obtain ⟨rfl, hy⟩ := y'
          refine g_wipe rfl ?_
          obtain ⟨dd, hdd, hq⟩ := DqAll.at (.cons h1 (.cons h2 .nil)) hy
          have hq := hq.same s
          rw [hdd] at kt
          cases hq <;> (walk_at "go"; exact kt _ (Same.refl _))
        · walk_at "go"
          refine g_all (bs := [d1.isInt, d2.isInt]) ?_ (SqL.of hH) 
          cases e1 : d1.isInt with
          | false =>
            have e : Dt.lawNum (.tup [d1, d2]) = false := by
              unfold Dt.lawNum
              split
              · rename_i z
                cases z
                cases e1
              · rfl
            rw [e] at k
            refine g_blF ?_
            refine iteT ?_
            walk_at "go"
            exact k _ s
          | true =>
            cases e2 : d2.isInt with
            | false =>
              have e : Dt.lawNum (.tup [d1, d2]) = false := by
                unfold Dt.lawNum
                split
                · rename_i z
                  cases z
                  cases e2
                · rfl
              rw [e] at k
              refine g_blF ?_
              refine iteT ?_
              walk_at "go"
              exact k _ s
            | true =>
              cases d1 <;> cases e1
              cases d2 <;> cases e2
              cases h1
              cases h2
              rename_i n m
              refine g_blF ?_
              refine iteF ?_
              have ha' := s _ _ ha
              by_cases c : 0 < m
              · walk_at "go"
                all_goals first
                  | exact hf
                  | exact c
                  | skip
                rename_i tl Hl sl hl
                have e : Dt.lawNum (.tup [.int n, .int m]) = decide (low n m = (n, m)) := by
                  show (decide (0 < m) && decide (Int.gcd n m = 1)) = _
                  rw [decide_eq_true c, Bool.true_and]
                  by_cases z : Int.gcd n m = 1
                  · rw [decide_eq_true z, low_one z, decide_eq_true rfl]
                  · rw [decide_eq_false z, decide_eq_false fun y => z ?_]
                    have := (low_lo (n := n) c).2
                    rw [y] at this
                    exact this
                rw [e] at k
                refine g_eqP (p := low n m) (q := (n, m)) (k _ (s.trans sl)) ⟨_, rfl, hl⟩ ⟨_, rfl, sl _ _ ha'⟩
              · have e : Dt.lawNum (.tup [.int n, .int m]) = false := by
                  show (decide (0 < m) && decide (Int.gcd n m = 1)) = _
                  rw [decide_eq_false c, Bool.false_and]
                rw [e] at k
                walk_at "go"
                exact k _ s
    | _ =>
      walk_at "go"
      exact k _ (Same.refl _)
theorem ok_l_is_own (F : Fun K "_law_is_own" "_law_is_own" s_l_is_own f fd) (T : Blt mg) (D_l_number : Df P w K mg base 2 "_law_number" f1 ["_law_one"] spLnum) : FnOk P w K mg base CX0 3 f fd ["_law_thing"] spOwn := by
  obtain ⟨_, G_l_number, B_l_number⟩ := D_l_number.ok
  refine F.ok sc_l_is_own (fun vs H Q E h => ?_) (fun cdv A outer s H vs Q E hr h => ?_)
  · obtain ⟨v, d, rfl, _⟩ := h
    rfl
  · obtain ⟨v, d, rfl, hv, hf, k⟩ := h
    refine ⟨_, (pss_one (ps_ret (pe_or (pe_call G_l_number (hr.mono (by decide)) (by rfl) D_l_number.g D_l_number.kp B_l_number .nil pass0 (pa_cons (pv 0) pa_nil)) (pe_one (pe_and (pe_callB (cg_isiK K) (by rfl) T.n_isinstance (by decide +kernel) (pa_cons (pv 0) (pa_cons (pe_bltn (v := .ty "int") (by rfl) T.n_int (by decide +kernel) rfl) pa_nil))) (pe_one (pe_not (pe_callB (cg_isiK K) (by rfl) T.n_isinstance (by decide +kernel) (pa_cons (pv 0) (pa_cons (pe_bltn (v := .ty "bool") (by rfl) T.n_bool (by decide +kernel) rfl) pa_nil)))))))))), ?_⟩
    walk_at "go"
    rename_i H1 s1
    have hv1 := hv.same s1
    cases e : d.lawNum with
    | true =>
      have e2 : d.isNum = true := by
        unfold Dt.lawNum at e
        split at e
        · exact e
        · cases e
      rw [e2] at k
      walk_at "go"
      exact k _ s1
    | false =>
      cases hv1 with
      | int i => walk_at "go"; exact k _ s1
      | @tup a xs ds ha hd =>
        have e2 : Dt.isNum (.tup ds) = false := by
          unfold Dt.isNum
          split
          · rename_i z
            cases z
          · rename_i n m z
            cases z
            exact e
          · rfl
        rw [e2] at k
        walk_at "go"
        exact k _ s1
      | _ => walk_at "go"; exact k _ s1
theorem ok_l_sorted (F : Fun K "_law_sorted" "_law_sorted" s_l_sorted f fd) (T : Blt mg) (D_l_under : Df P w K mg base 1 "_law_under" f1 ["_law_one", "_law_two"] spBelow) : FnOk P w K mg base CX0 2 f fd ["_law_many"] (spSorted K) := by
  obtain ⟨_, G_l_under, B_l_under⟩ := D_l_under.ok
  refine F.ok sc_l_sorted (fun vs H Q E h => ?_) (fun cdv A outer s H vs Q E hr h => ?_)
  · obtain ⟨a, xs, qs, rfl, _⟩ := h
    rfl
  · obtain ⟨a, xs, qs, rfl, ha, hp, hg, hl, k⟩ := h
    refine ⟨_, (pss_cons (ps_set (i := 1) sc_l_sorted.nd rfl (.inl rfl) (pe_lst pa_nil))
      (pss_cons (ps_for PassesOwn.never rfl (pi_list (pv 0)) (pg_name (i := 2) sc_l_sorted.nd rfl (.inr rfl))
      (pss_one (ps_if (pt_cmpR (notInD_K K (hu65 hr)) (pv 2) (pv 1) (by rfl))
      (pss_one (ps_expr (pe_bm PySem.F.plainAttrs_list PySem.F.slot_list_insert PySem.F.type_list_insert mg_insert (pv 1) (pa_cons (pe_callB (cg_lenK K) (by rfl) T.n_len (by decide +kernel) (pa_cons (pe_lc (own := [("_law_two", 3)]) (g := gName 3) rfl sc_l_sorted.nd (pi_list (pv 1)) (blkOk_by (N := ["_law_many", "_law_found", "_law_one", "_law_two"]) (sc := defScope s_l_sorted) (by decide +kernel)) (fun _ _ _ _ _ => pg_name (i := 3) sc_l_sorted.nd rfl (.inl rfl)) (fun _ _ _ _ _ => (pts_one (pt_val (pe_call G_l_under (hr.mono (by decide)) (by rfl) D_l_under.g D_l_under.kp B_l_under .nil pass0 (pa_cons (pv 3) (pa_cons (pv 2) pa_nil)))))) (fun _ _ _ _ _ => (pv 3))) pa_nil)) (pa_cons (pv 2) pa_nil))))) pss_nil)))
      (pss_one (ps_ret (pv 1))))), ?_⟩
    walk_at "go"
    rename_i D hD
    refine for_list (K := K) (a := a) (xs := xs) (fun i σ H' => ∃ vx vy ys, σ = [some (.ref a), some (.ref D), vx, vy] ∧ H' D = some (.lst ys) ∧ Paired (Pr H') ys (ord (qs.take i)) ∧ Same H H' ∧ ys.length ≤ i)
      ⟨none, none, [], rfl, upd_same, .nil, same_new hD, Nat.le_refl _⟩ (fun i σ H' _ h => ?_) (fun i x σ H' hx h => ?_) (fun σ H' h => ?_)
    · obtain ⟨_, _, _, _, _, _, s1, _⟩ := h
      exact sq_l s1 ha
    · obtain ⟨vx, vy, ys, rfl, hY, hpy, s1, hyl⟩ := h
      obtain ⟨y, hy, ny⟩ := paired_at (paired_mono (fun _ _ z => Pr.same s1 z) hp) hx
      have hyn := hpy.length
      have gy := hg y (List.mem_of_getElem? hy)
      have hlo : ∀ q ∈ qs.take i, Lo q := fun q hq => (hg q (List.mem_of_mem_take hq)).1
      have hX : ∀ q ∈ ord (qs.take i), Gd q := fun q hq => hg q (List.mem_of_mem_take ((ord_mem hlo q).mp hq))
      have eo := ord_take hy
      have il : i < xs.length := (List.getElem?_eq_some_iff.mp hx).1
      generalize ord (qs.take i) = os at *
      walk_at "go"
      refine g_notInP ?_ ny (SqL.of hY) hpy
      refine g_blF ?_
      by_cases c : y ∈ os
      · refine iteNT c ?_
        walk_at "go"
        exact ⟨_, _, ys, rfl, hY, by rw [eo, ins, if_pos c]; exact hpy, s1, by omega⟩
      · refine iteNF c ?_
        walk_at "go"
        intro D2 hD2
        have ne : D ≠ D2 := ne_of_none hY hD2
        refine lcW (walk_list (K := K) (a := D) (xs := ys)) hD2 (fun k => under ((os[k]?).getD (0, 1)) y) (fun _ _ _ => True) (by omega) (fun _ s => SqL.of (s _ _ hY)) (fun _ _ _ _ _ h => h) (fun k z H2 H2' hk s2 hD' y' Kt Kf ht hf => ?_) (fun H2 zs s2 hZ hpz => ?_)
        · obtain ⟨rfl, hz⟩ := y'
          refine g_wipe rfl ?_
          obtain ⟨o, ho, pz⟩ := paired_at hpy hz
          have pz := pz.same s2
          have py := ny.same s2
          have so := (hX o (List.mem_of_getElem? ho)).2
          have sy := gy.2
          rw [ho] at ht hf
          cases c2 : under o y with
          | true =>
            walk_at "go"
            exact ht _ _ (Same.refl _) c2 trivial
          | false =>
            walk_at "go"
            exact hf _ (Same.refl _) c2
        · have hzl := hpz.length
          rw [hyn, filter_len (fun o => under o y) os] at hzl
          have hle : (os.filter fun o => under o y).length ≤ os.length := List.length_filter_le ..
          walk_at "go"
          have sl : (sizeLine : Nat) = 16777216 := sizeLine_eq
          refine ⟨D, ys, _, _, rfl, rfl, s2 _ _ hY, by omega, by omega, by omega, ?_⟩
          have pp := paired_ins (F := Pr H2) (i := zs.length) (ny.same s2) (paired_mono (fun _ _ h => h.same s2) hpy) (by omega)
          have e1 : Int.toNat (zs.length : Int) = zs.length := rfl
          rw [e1]
          refine ⟨_, _, _, rfl, upd_same, ?_, fun a o e => ?_, ?_⟩
          · rw [eo, ins, if_neg c]
            rw [show (os.filter fun p => under p y).length = zs.length from hzl]
            refine paired_mono (fun v q h => ?_) pp
            have h : Pr H2 v q := h
            obtain ⟨t, rfl, ht⟩ := h
            refine ⟨t, rfl, ?_⟩
            rw [upd_ne (ne_of (s2 _ _ hY) ht (by intro z; cases z)).symm]
            exact ht
          · rw [upd_ne (ne_of_none e hD)]
            exact s2 _ _ (s1 _ _ e)
          · rw [List.length_append, List.length_append, List.length_take, List.length_drop, List.length_singleton]
            omega
    · obtain ⟨vx, vy, ys, rfl, hY, hpy, s1, _⟩ := h
      walk_at "go"
      rw [List.take_of_length_le (by rw [← hp.length]; exact Nat.le_refl _)] at hpy
      exact k D H' ys s1 hD hY hpy
end
end Ko


namespace Ko
open PySem L2 PySem.Spec PyProof.Rows Xm
def spHanded : Sp := fun vs H Q _ => ∃ (b c t : Addr) (q : Pq), vs = [.ref b, .ref t] ∧ Bag H b c ∧ delH H b t = some (.tup [.int q.1, .int q.2]) ∧ ∀ x H', Nm (delH H' b) x q → Same (delH H b) (delH H' b) → Bag H' b c → Q x H'
/-- of the documented size -/
def Small (q : Pq) : Prop := Lo q ∧ q.1.natAbs ≤ 12000 ∧ q.2 ≤ 12
def spDrawn : Sp := fun vs H Q _ => ∃ (b c : Addr), vs = [.ref b] ∧ Bag H b c ∧ ∀ t n d H', delH H' b t = some (.tup [.int n, .int d]) → Small (n, d) → Same (delH H b) (delH H' b) → Bag H' b c → Q (.ref t) H'
section
variable {H : Hp} {Q : VK} {E : XK} {b c t : Addr} {q : Pq}
theorem sp_ofK {l : Addr} {xs : List V} (k : ∀ x H', x ∈ xs → Same (delH H b) (delH H' b) → Bag H' b c → Q x H') (h : delH H b l = some (.lst xs)) (B : Bag H b c) (h0 : 0 < xs.length) (h1 : xs.length < 1000) : spOf [.ref b, .ref l] H Q E := sp_of h B h0 h1 k
theorem mulS {a b : Int} (ha : a.natAbs < 2 ^ 250) (hb : b.natAbs < 2 ^ 250) : CMulW a b := sz_mul (Nat.lt_of_lt_of_le ha (Nat.pow_le_pow_right (by decide) (by decide))) (Nat.lt_of_lt_of_le hb (Nat.pow_le_pow_right (by decide) (by decide)))
theorem up8900 {n : Nat} (h : n < 2 ^ 250) : n < 2 ^ 8900 := Nat.lt_of_lt_of_le h (Nat.pow_le_pow_right (by decide) (by decide))
theorem sp_handed {n d : Int} (k : ∀ x H', Nm (delH H' b) x (n, d) → Same (delH H b) (delH H' b) → Bag H' b c → Q x H') (h : delH H b t = some (.tup [.int n, .int d])) (B : Bag H b c) : spHanded [.ref b, .ref t] H Q E := ⟨b, c, t, (n, d), rfl, B, h, k⟩
theorem sp_drawn (k : ∀ t n d H', delH H' b t = some (.tup [.int n, .int d]) → Small (n, d) → Same (delH H b) (delH H' b) → Bag H' b c → Q (.ref t) H') (B : Bag H b c) : spDrawn [.ref b] H Q E := ⟨b, c, rfl, B, k⟩
end
theorem low_small {n d : Int} (h : 0 < d) (hn : n.natAbs ≤ 12000) (hd : d ≤ 12) : Small (low n d) := by
  have ⟨h1, h2⟩ := low_le (n := n) (d := d) (by omega)
  exact ⟨low_lo h, by omega, by omega⟩

local macro_rules | `(tactic| walk_at "hpS") => `(tactic| with_reducible first
  | exact Same.refl _
  | assumption
  | (refine' Same.trans ?hq (same_new (by assumption)); (case hq => walk_at "hpS"))
  | (refine' Same.trans ?hq (by assumption); (case hq => walk_at "hpS"))
  | fail)
local macro_rules | `(tactic| walk_at "hpH") => `(tactic| with_reducible first
  | assumption
  | exact upd_same
  | (refine' same_at (same_new (by assumption)) ?hq; (case hq => walk_at "hpH"))
  | (refine' same_at (by assumption) ?hq; (case hq => walk_at "hpH"))
  | fail)
local macro_rules | `(tactic| walk_at "hpTo") => `(tactic| with_reducible first
  | assumption
  | (refine' sq_t (same_new (by assumption)) ?hq; (case hq => walk_at "hpTo"))
  | (refine' sq_t (by assumption) ?hq; (case hq => walk_at "hpTo"))
  | fail)
local macro_rules | `(tactic| walk_at "hpT") => `(tactic| with_reducible first
  | (refine' SqT.of ?hq; (case hq => walk_at "hpH"))
  | walk_at "hpTo"
  | fail)
local macro_rules | `(tactic| walk_at "hpLo") => `(tactic| with_reducible first
  | assumption
  | (refine' sq_l (same_new (by assumption)) ?hq; (case hq => walk_at "hpLo"))
  | (refine' sq_l (by assumption) ?hq; (case hq => walk_at "hpLo"))
  | fail)
local macro_rules | `(tactic| walk_at "hpL") => `(tactic| with_reducible first
  | (refine' SqL.of ?hq; (case hq => walk_at "hpH"))
  | walk_at "hpLo"
  | fail)
local macro_rules | `(tactic| walk_at "kit") => `(tactic| with_reducible first
  | exact kit_int_bool | exact kit_int_int | exact kit_int_tuple | exact kit_int_list | exact kit_int_str
  | exact kit_tuple_tuple | exact kit_tuple_int | exact kit_tuple_bool | exact kit_tuple_list | exact kit_tuple_str
  | exact kit_bool_bool | exact kit_bool_int | exact kit_bool_tuple | exact kit_bool_list | exact kit_bool_str
  | exact kit_str_str | exact kit_str_int | exact kit_str_bool | exact kit_str_tuple | exact kit_str_list
  | exact kit_NoneType_int | exact kit_NoneType_bool | exact kit_NoneType_tuple | exact kit_NoneType_list | exact kit_NoneType_str
  | exact kit_list_list | exact kit_list_tuple | exact kit_list_int | exact kit_list_bool | exact kit_list_str
  | fail)
local macro_rules | `(tactic| walk_at "call") => `(tactic| fail)
local macro_rules | `(tactic| walk_at "s0") => `(tactic| with_reducible first
  | refine g_seq ?_ | refine g_asg ?_ | refine g_name ?_ | refine g_ifS ?_ | refine g_ret ?_ | refine g_retN ?_ | refine g_next ?_
  | refine g_par ?_ | refine g_parE ?_ | refine g_drop ?_
  | refine g_c ?_ | refine g_op ?_ | refine g_un ?_ | refine g_cb ?_ | refine g_call ?_ | refine g_nil ?_ | refine g_cons ?_ | refine g_tup ?_ | refine g_lst ?_
  | refine g_test ?_ | refine g_B ?_ | refine g_blF ?_ | refine g_and ?_ | refine g_or ?_ | refine g_not ?_ | refine g_andV ?_ | refine g_orV ?_ | refine g_notV ?_ | refine g_if ?_
  | refine iteT ?_ | refine iteF ?_
  | refine g_chain ?_ | refine g_sl ?_ | refine g_noPart ?_ | refine g_part ?_ | refine g_partI ?_ | refine g_slS ?_ ?side | refine g_M1 ?_ | refine g_M1s ?_ | refine g_starts ?_ | refine g_bm ?_ | refine g_bm0 ?_ | refine g_tyS ?_
  | refine g_Fs ?_ | refine g_JsN ?_ | refine g_JsC ?_ | refine g_JsE ?_ ?side | refine g_fmt ?_ | refine g_fmtI ?_ ?side | refine g_fmtS ?_ ?side | refine g_iList ?_ | refine g_iTup ?_ | refine g_iStr ?_ | refine g_iStrE ?_ | refine g_iRng1 ?_ | refine g_iRng1E ?_ ?side1 ?side2 | refine g_yes ?_ | refine g_ckw ?_ | refine g_dget ?_ | refine g_dictZip ?_ | refine g_gCons ?_ | refine g_gNil ?_ | refine g_revL ?_ | refine g_for ?_ | refine g_lc ?_ | refine g_addS ?_ ?side | refine g_str ?_ ?side | refine g_lenS ?_ ?side
  | refine g_rI0 ?_ | refine g_rI ?_ ?side | refine g_rU ?_ | refine g_abs ?_ | refine g_int ?_ | refine g_intB ?_ | refine g_gcd ?_ | refine g_inS ?_ | refine g_isN0 ?_ | refine g_notN0 ?_
  | fail)
local macro_rules | `(tactic| walk_at "s1") => `(tactic| first
  | ((with_reducible refine' g_var ?h ?_); (case h => exact rfl))
  | ((with_reducible refine' g_new ?h ?_); (case h => exact (by simp only [List.length_cons, List.length_nil]; decide)); intro tnew htnew)
  | ((with_reducible refine' iteDT ?h ?_); (case h => first | exact rfl | assumption))
  | ((with_reducible refine' iteNT ?h ?_); (case h => first | exact rfl | assumption))
  | ((with_reducible refine' iteDF ?h ?_); (case h => first | assumption | (intro z; cases z)))
  | ((with_reducible refine' iteNF ?h ?_); (case h => first | assumption | (intro z; cases z)))
  | ((with_reducible refine' g_eq ?_ ?h); (case h => exact rfl))
  | ((with_reducible refine' g_ne ?_ ?h); (case h => exact rfl))
  | ((with_reducible refine' g_ixT ?_ ?h ?e); (case h => walk_at "hpT"); (case e => first | exact rfl | exact atI_0 | exact atI_1))
  | ((with_reducible refine' g_ixL ?_ ?h ?e); (case h => walk_at "hpL"); (case e => first | exact rfl | exact atI_0 | exact atI_1))
  | ((with_reducible refine' g_isi_int ?_ ?h); (case h => walk_at "kit"))
  | ((with_reducible refine' g_isi_str ?_ ?h); (case h => walk_at "kit"))
  | ((with_reducible refine' g_isi_bl ?_ ?h); (case h => walk_at "kit"))
  | ((with_reducible refine' g_isi_non ?_ ?h); (case h => walk_at "kit"))
  | ((with_reducible refine' g_isi_t ?_ ?t ?h); (case t => walk_at "hpT"); (case h => walk_at "kit"))
  | ((with_reducible refine' g_isi_l ?_ ?t ?h ?l); (case l => walk_at "hpH"); (case t => walk_at "hpL"); (case h => walk_at "kit"))
  | ((with_reducible refine' g_lenT ?_ ?h); (case h => walk_at "hpT"))
  | ((with_reducible refine' g_lenL ?_ ?h); (case h => walk_at "hpL"))
  | ((with_reducible refine' g_split ?_ ?h ?side); (case h => exact rfl); intro pnew hpnew)
  | ((with_reducible refine' g_slL ?h ?_); (case h => walk_at "hpL"); intro pnew hpnew)
  | ((with_reducible refine' g_iListE ?_ ?h); (case h => walk_at "hpL"))
  | ((with_reducible refine' g_iTupE ?_ ?h); (case h => walk_at "hpT"))
  | ((with_reducible refine' g_tyL ?_ ?h); (case h => walk_at "hpL"))
  | ((with_reducible refine' g_join ?_ ?h ?side); (case h => walk_at "hpL"))
  | ((with_reducible refine' g_append ?_ ?h ?side); (case h => walk_at "hpH"))
  | ((with_reducible refine' g_all ?_ ?h); (case h => walk_at "hpL"))
  | ((with_reducible refine' g_gTup ?_ ?h ?n); (case h => walk_at "hpT"); (case n => exact rfl))
  | ((with_reducible refine' g_revLE ?h ?_); (case h => walk_at "hpL"); intro pnew hpnew)
  | ((with_reducible refine' g_isN1 ?_ ?h); (case h => first | assumption | (intro z; cases z)))
  | ((with_reducible refine' g_notN1 ?_ ?h); (case h => first | assumption | (intro z; cases z)))
  | walk_at "call"
  | ((with_reducible refine' iteBT ?h ?_); (case h => first | assumption | exact rfl))
  | ((with_reducible refine' iteBF ?h ?_); (case h => first | assumption | exact rfl))
  | fail)
local macro_rules | `(tactic| walk_at "nrm") => `(tactic| simp only [Bool.not_true, Bool.not_false, decide_eq_true_eq, decide_true, decide_false, Bool.true_and, Bool.false_and, Bool.and_true, Bool.and_false, V.int.injEq, V.bl.injEq, V.str.injEq, List.length_cons, List.length_nil, Bool.not_eq_true', decide_eq_false_iff_not, Int.not_lt, Int.not_le, reduceCtorEq, not_false_eq_true, not_true_eq_false, Decidable.not_not] at *)
local macro_rules | `(tactic| walk_at "sp") => `(tactic| ((with_reducible refine ite2 (fun c => ?_) (fun c => ?_)) <;> (try simp only [decide_eq_true_eq, Bool.not_eq_true', decide_eq_false_iff_not, V.int.injEq, V.bl.injEq, V.str.injEq, Int.not_lt, Int.not_le, reduceCtorEq, Decidable.not_not, Bool.false_eq_true, Bool.true_eq_false] at c) <;> (try (exfalso; omega))))
local macro_rules | `(tactic| walk_at "s") => `(tactic| first | walk_at "s0" | walk_at "s1" | fail)
local macro_rules | `(tactic| walk_at "go") => `(tactic| (try dsimp only [cxK, cxK']); repeat' walk_at "s")
local macro_rules | `(tactic| walk_at "gos") => `(tactic| ((try dsimp only [cxK, cxK']); repeat' (first | walk_at "s" | walk_at "sp" | fail)))

local macro_rules | `(tactic| walk_at "hpNo") => `(tactic| with_reducible first
  | assumption
  | (refine' Nm.ofPr ?hq; (case hq => assumption))
  | (refine' Nm.same (same_new (by assumption)) ?hq; (case hq => walk_at "hpNo"))
  | (refine' Nm.same (by assumption) ?hq; (case hq => walk_at "hpNo"))
  | fail)
local macro_rules | `(tactic| walk_at "hpN") => `(tactic| with_reducible first
  | walk_at "hpNo"
  | (refine' Nm.of ?hq; (case hq => walk_at "hpH"))
  | fail)
local macro_rules | `(tactic| walk_at "hpPo") => `(tactic| with_reducible first
  | assumption
  | (refine' Pr.same (same_new (by assumption)) ?hq; (case hq => walk_at "hpPo"))
  | (refine' Pr.same (by assumption) ?hq; (case hq => walk_at "hpPo"))
  | fail)
local macro_rules | `(tactic| walk_at "hpP") => `(tactic| with_reducible first
  | walk_at "hpPo"
  | (refine' Pr.of ?hq; (case hq => walk_at "hpH"))
  | fail)
local macro_rules | `(tactic| walk_at "hpDo") => `(tactic| with_reducible first
  | assumption
  | exact Dq.int _ | exact Dq.bl _ | exact Dq.str _ | exact Dq.non
  | (refine' Dq.same (same_new (by assumption)) ?hq; (case hq => walk_at "hpDo"))
  | (refine' Dq.same (by assumption) ?hq; (case hq => walk_at "hpDo"))
  | fail)
local macro_rules | `(tactic| walk_at "hpD") => `(tactic| with_reducible first
  | walk_at "hpDo"
  | fail)

local macro_rules | `(tactic| walk_at "hpM") => `(tactic| with_reducible first
  | assumption
  | (refine' mk_new ?hn ?hB; (case hn => assumption); (case hB => walk_at "hpB"))
  | (refine' mk_tup ?hn ?hB; (case hn => assumption); (case hB => walk_at "hpB"))
  | (refine' same_at (mk_upd (by assumption)) ?hq; (case hq => walk_at "hpM"))
  | (refine' same_at (show Same (delH _ _) (delH _ _) by assumption) ?hq; (case hq => walk_at "hpM"))
  | (refine' same_at (mk_mono (by assumption)) ?hq; (case hq => walk_at "hpM"))
  | fail)
local macro_rules | `(tactic| walk_at "hpSM") => `(tactic| with_reducible first
  | exact Same.refl _
  | assumption
  | (refine' Same.trans ?hq (mk_upd (by assumption)); (case hq => walk_at "hpSM"))
  | (refine' Same.trans ?hq (show Same (delH _ _) (delH _ _) by assumption); (case hq => walk_at "hpSM"))
  | (refine' Same.trans ?hq (mk_mono (by assumption)); (case hq => walk_at "hpSM"))
  | fail)
local macro_rules | `(tactic| walk_at "hpB") => `(tactic| with_reducible first
  | assumption
  | (refine' bag_upd ?hq (by assumption); (case hq => walk_at "hpB"))
  | (refine' bag_same ?hq (by assumption); (case hq => walk_at "hpB"))
  | fail)
local macro_rules | `(tactic| walk_at "hpHo") => `(tactic| with_reducible first
  | assumption
  | exact upd_same
  | (refine' same_at (same_new (by assumption)) ?hq; (case hq => walk_at "hpHo"))
  | (refine' same_at (by assumption) ?hq; (case hq => walk_at "hpHo"))
  | fail)
local macro_rules | `(tactic| walk_at "hpH") => `(tactic| with_reducible first
  | walk_at "hpHo"
  | (refine' same_at mk_same ?hq; (case hq => walk_at "hpM"))
  | fail)
local macro_rules | `(tactic| walk_at "hpNo") => `(tactic| with_reducible first
  | assumption
  | (refine' Nm.ofPr ?hq; (case hq => assumption))
  | (refine' Nm.same (same_new (by assumption)) ?hq; (case hq => walk_at "hpNo"))
  | (refine' Nm.same (by assumption) ?hq; (case hq => walk_at "hpNo"))
  | fail)
local macro_rules | `(tactic| walk_at "hpNMo") => `(tactic| with_reducible first
  | assumption
  | (refine' Nm.ofPr ?hq; (case hq => assumption))
  | (refine' Nm.same (mk_upd (by assumption)) ?hq; (case hq => walk_at "hpNMo"))
  | (refine' Nm.same (show Same (delH _ _) (delH _ _) by assumption) ?hq; (case hq => walk_at "hpNMo"))
  | (refine' Nm.same (mk_mono (by assumption)) ?hq; (case hq => walk_at "hpNMo"))
  | fail)
local macro_rules | `(tactic| walk_at "hpNM") => `(tactic| with_reducible first
  | walk_at "hpNMo"
  | (refine' Nm.of ?hq; (case hq => walk_at "hpM"))
  | fail)
local macro_rules | `(tactic| walk_at "hpN") => `(tactic| with_reducible first
  | walk_at "hpNo"
  | (refine' Nm.same mk_same ?hq; (case hq => walk_at "hpNMo"))
  | (refine' Nm.of ?hq; (case hq => walk_at "hpH"))
  | fail)
local macro_rules | `(tactic| walk_at "hpPo") => `(tactic| with_reducible first
  | assumption
  | (refine' Pr.same (same_new (by assumption)) ?hq; (case hq => walk_at "hpPo"))
  | (refine' Pr.same (by assumption) ?hq; (case hq => walk_at "hpPo"))
  | fail)
local macro_rules | `(tactic| walk_at "hpPMo") => `(tactic| with_reducible first
  | assumption
  | (refine' Pr.same (mk_upd (by assumption)) ?hq; (case hq => walk_at "hpPMo"))
  | (refine' Pr.same (show Same (delH _ _) (delH _ _) by assumption) ?hq; (case hq => walk_at "hpPMo"))
  | (refine' Pr.same (mk_mono (by assumption)) ?hq; (case hq => walk_at "hpPMo"))
  | fail)
local macro_rules | `(tactic| walk_at "hpPM") => `(tactic| with_reducible first
  | walk_at "hpPMo"
  | (refine' Pr.of ?hq; (case hq => walk_at "hpM"))
  | fail)
local macro_rules | `(tactic| walk_at "hpP") => `(tactic| with_reducible first
  | walk_at "hpPo"
  | (refine' Pr.same mk_same ?hq; (case hq => walk_at "hpPMo"))
  | (refine' Pr.of ?hq; (case hq => walk_at "hpH"))
  | fail)
local macro_rules | `(tactic| walk_at "hpDo") => `(tactic| with_reducible first
  | assumption
  | exact Dq.int _ | exact Dq.bl _ | exact Dq.str _ | exact Dq.non
  | (refine' Dq.same (same_new (by assumption)) ?hq; (case hq => walk_at "hpDo"))
  | (refine' Dq.same (by assumption) ?hq; (case hq => walk_at "hpDo"))
  | fail)
local macro_rules | `(tactic| walk_at "hpDMo") => `(tactic| with_reducible first
  | assumption
  | exact Dq.int _ | exact Dq.bl _ | exact Dq.str _ | exact Dq.non
  | (refine' Dq.same (mk_upd (by assumption)) ?hq; (case hq => walk_at "hpDMo"))
  | (refine' Dq.same (show Same (delH _ _) (delH _ _) by assumption) ?hq; (case hq => walk_at "hpDMo"))
  | (refine' Dq.same (mk_mono (by assumption)) ?hq; (case hq => walk_at "hpDMo"))
  | fail)
local macro_rules | `(tactic| walk_at "hpDM") => `(tactic| with_reducible first
  | walk_at "hpDMo"
  | fail)
local macro_rules | `(tactic| walk_at "hpD") => `(tactic| with_reducible first
  | walk_at "hpDo"
  | (refine' Dq.same mk_same ?hq; (case hq => walk_at "hpDMo"))
  | fail)
local macro_rules | `(tactic| walk_at "call") => `(tactic| first
  | ((with_reducible refine' sp_draw ?_ ?h ?side1 ?side2); (case h => walk_at "hpB"); intro idraw Hd' hi0 hi1 sd' bd')
  | fail)

local macro_rules | `(tactic| walk_at "call") => `(tactic| first
  | ((with_reducible refine' sp_draw ?_ ?h ?side1 ?side2); (case h => walk_at "hpB"); intro idraw Hd' hi0 hi1 sd' bd')
  | ((with_reducible refine' sp_ofK ?_ ?h ?B ?side1 ?side2); (case h => walk_at "hpM"); (case B => walk_at "hpB"); intro xof Ho' hxo so' bo')
  | ((with_reducible refine' sp_low ?h ?_ ?side1 ?side2); (case h => walk_at "hpH"); intro tp Hp' sp' hp')
  | fail)
section
variable {P : Program} {w : World} {K : Fg} {mg : Str → Option Value} {base : Heap} {f f1 f2 f3 : Addr} {fd : FuncData}
theorem ok_l_handed (F : Fun K "_law_handed" "_law_handed" s_l_handed f fd) (T : Blt mg) (D_l_draw : Df P w K mg base 1 "_law_draw" f1 ["_law_bag_here", "_law_many"] spDraw) : FnOk P w K mg base CX0 2 f fd ["_law_bag_here", "_law_one"] spHanded := by
  obtain ⟨_, G_l_draw, B_l_draw⟩ := D_l_draw.ok
  refine F.ok sc_l_handed (fun vs H Q E h => ?_) (fun cdv A outer s H vs Q E hr h => ?_)
  · obtain ⟨b, c, t, q, rfl, _⟩ := h
    rfl
  · obtain ⟨b, c, t, q, rfl, B, ht, k⟩ := h
    refine ⟨_, (pss_one (ps_ret (pe_ifExp (PW.pt (pw_and (pt_cmpR op_eq (pe_ix (ix_seqK K) (pv 1) pe_int (fun _ _ => rfl)) pe_int (nomark _)) (pw_and1 (pt_cmpR op_eq (pe_call G_l_draw (hr.mono (by decide)) (by rfl) D_l_draw.g D_l_draw.kp B_l_draw .nil pass0 (pa_cons (pv 0) (pa_cons pe_int pa_nil))) pe_int (nomark _))))) (pe_ix (ix_seqK K) (pv 1) pe_int (fun _ _ => rfl)) (pv 1)))), ?_⟩
    by_cases d : q.2 = 1
    · have d' : V.int q.2 = V.int 1 := by rw [d]
      walk_at "gos"
      all_goals first
        | decide
        | skip
      · refine k _ _ (.inr ⟨rfl, d⟩) ?_ ?_
        · walk_at "hpSM"
        · walk_at "hpB"
      · refine k _ _ ?_ ?_ ?_
        · walk_at "hpNM"
        · walk_at "hpSM"
        · walk_at "hpB"
    · have d' : ¬ V.int q.2 = V.int 1 := fun z => d (V.int.inj z)
      walk_at "go"
      refine k _ _ ?_ ?_ ?_
      · walk_at "hpNM"
      · walk_at "hpSM"
      · walk_at "hpB"
theorem ok_l_drawn (F : Fun K "_law_drawn" "_law_drawn" s_l_drawn f fd) (T : Blt mg) (D_l_draw : Df P w K mg base 1 "_law_draw" f1 ["_law_bag_here", "_law_many"] spDraw) (D_l_of : Df P w K mg base 2 "_law_of" f2 ["_law_bag_here", "_law_things"] spOf)
    (D_l_low : Df P w K mg base 1 "_law_low" f3 ["_law_one"] spLow) : FnOk P w K mg base CX0 3 f fd ["_law_bag_here"] spDrawn := by
  obtain ⟨_, G_l_draw, B_l_draw⟩ := D_l_draw.ok
  obtain ⟨_, G_l_of, B_l_of⟩ := D_l_of.ok
  obtain ⟨_, G_l_low, B_l_low⟩ := D_l_low.ok
  refine F.ok sc_l_drawn (fun vs H Q E h => ?_) (fun cdv A outer s H vs Q E hr h => ?_)
  · obtain ⟨b, c, rfl, _⟩ := h
    rfl
  · obtain ⟨b, c, rfl, B, k⟩ := h
    refine ⟨_, (pss_cons (ps_set (i := 1) sc_l_drawn.nd rfl (.inl rfl) (pe_op op_add pe_int (pe_call G_l_draw (hr.mono (by decide)) (by rfl) D_l_draw.g D_l_draw.kp B_l_draw .nil pass0 (pa_cons (pv 0) (pa_cons pe_int pa_nil)))))
      (pss_cons (ps_set (i := 2) sc_l_drawn.nd rfl (.inl rfl) (pe_call G_l_draw (hr.mono (by decide)) (by rfl) D_l_draw.g D_l_draw.kp B_l_draw .nil pass0 (pa_cons (pv 0) (pa_cons pe_int pa_nil))))
      (pss_cons (ps_if (pt_cmpR op_eq (pv 2) pe_int (nomark _))
      (pss_one (ps_ret (pe_tup (pa_cons (pe_call G_l_of (hr.mono (by decide)) (by rfl) D_l_of.g D_l_of.kp B_l_of .nil pass0 (pa_cons (pv 0) (pa_cons (pe_lst (pa_cons pe_int (pa_cons pe_int (pa_cons (pe_un un_neg pe_int) (pa_cons pe_int (pa_cons (pe_un un_neg pe_int) pa_nil)))))) pa_nil))) (pa_cons pe_int pa_nil))))) pss_nil)
      (pss_cons (ps_if (pt_cmpR op_lt (pv 2) pe_int (nomark _))
      (pss_one (ps_ret (pe_call G_l_low (hr.mono (by decide)) (by rfl) D_l_low.g D_l_low.kp B_l_low .nil pass0 (pa_cons (pe_tup (pa_cons (pe_op op_sub (pe_call G_l_draw (hr.mono (by decide)) (by rfl) D_l_draw.g D_l_draw.kp B_l_draw .nil pass0 (pa_cons (pv 0) (pa_cons pe_int pa_nil))) pe_int) (pa_cons (pv 1) pa_nil))) pa_nil)))) pss_nil)
      (pss_one (ps_ret (pe_call G_l_low (hr.mono (by decide)) (by rfl) D_l_low.g D_l_low.kp B_l_low .nil pass0 (pa_cons (pe_tup (pa_cons (pe_op op_sub (pe_call G_l_draw (hr.mono (by decide)) (by rfl) D_l_draw.g D_l_draw.kp B_l_draw .nil pass0 (pa_cons (pv 0) (pa_cons (pe_op op_add (pe_op op_mulW pe_int (pv 1)) pe_int) pa_nil))) (pe_op op_mulW pe_int (pv 1))) (pa_cons (pv 1) pa_nil))) pa_nil)))))))), ?_⟩
    walk_at "gos"
    all_goals first
      | exact mulS (by omega) (by omega)
      | exact up8900 (by omega)
      | omega
      | exact Nat.le_of_ble_eq_true rfl
      | skip
    · rename_i xo H1 hx s1 b1 p hp
      obtain ⟨n, rfl, hn⟩ : ∃ n : Int, xo = .int n ∧ n.natAbs ≤ 12000 := by
        simp only [List.mem_cons, List.not_mem_nil, or_false] at hx
        rcases hx with rfl | rfl | rfl | rfl | rfl <;> exact ⟨_, rfl, by decide⟩
      refine k _ _ _ _ ?_ ⟨lo_int n, hn, by show (1 : Int) ≤ 12; decide⟩ ?_ ?_
      · walk_at "hpM"
      · walk_at "hpSM"
      · walk_at "hpB"
    · refine' k _ _ _ _ ?h1 ?h2 ?h3 ?h4
      case h1 => walk_at "hpM"
      case h2 => exact low_small (by omega) (by omega) (by omega)
      case h3 => walk_at "hpSM"
      case h4 => walk_at "hpB"
    · refine' k _ _ _ _ ?h1 ?h2 ?h3 ?h4
      case h1 => walk_at "hpM"
      case h2 => exact low_small (by omega) (by omega) (by omega)
      case h3 => walk_at "hpSM"
      case h4 => walk_at "hpB"
end
end Ko


namespace Ko
open PySem L2 PySem.Spec PyProof.Rows Xm
/-- of at most sixty digits, in lowest terms -/
def Big (q : Pq) : Prop := Lo q ∧ q.1.natAbs < 10 ^ 60 ∧ q.2.natAbs < 10 ^ 60
theorem Small.big {q : Pq} (h : Small q) : Big q := ⟨h.1, by have := h.2.1; omega, by have := h.2.2; have := h.1.1; omega⟩
theorem tl_txt {q : Pq} (h : 0 < q.2) : TL.tl (txt q) = if q.2 = 1 then tlI q.1 else tlI q.1 ++ 47 :: TL.numL q.2.natAbs := by
  unfold txt
  split
  · rw [tl_int]
  · rw [TL.tl_append, TL.tl_append, TL.tl_append, tl_int, tl_int, tl_slash, tl_none, tlI_pos (by omega : 0 ≤ q.2), List.nil_append, List.append_assoc]
    rfl
theorem read_txt {q : Pq} (h : Big q) : readL (TL.tl (txt q)) = some q := by
  obtain ⟨⟨h0, hg⟩, h1, h2⟩ := h
  obtain ⟨n, d⟩ := q
  dsimp only at *
  rw [tl_txt h0]
  dsimp only
  split
  · rename_i e
    subst e
    rw [read_one, readW_one h1]
  · rw [read_two, readW_two h1 h2, if_neg]
    · rw [show ((d.natAbs : Nat) : Int) = d by omega]
    · have : Nat.gcd n.natAbs d.natAbs = 1 := hg
      omega
theorem txt_len {q : Pq} (h : Big q) : (txt q).length ≤ 200 := by
  have l1 := len_int (i := q.1) (k := 60) (by decide) h.2.1
  have l2 := len_int (i := q.2) (k := 60) (by decide) h.2.2
  have e0 : (Str.empty).length = 0 := rfl
  have e3 : ("/" : Str).length = 1 := by decide +kernel
  have la : ∀ a b : Str, (a ++ b).length = a.length + b.length := fun a b => by
    rw [TL.len_tl, TL.len_tl, TL.len_tl, TL.tl_append, List.length_append]
  unfold txt
  split
  · omega
  · simp only [la]
    omega
theorem red_more {q : Pq} {m : Int} (h : Lo q) (hm : m ≠ 0) : red (q.1 * m) (q.2 * m) = q := by
  have hd := h.1
  have hz : q.2 * m ≠ 0 := Int.mul_ne_zero (by omega) hm
  refine lo_unique (red_lo hz) h ?_
  have hs : m < 0 ∨ 0 < m := by omega
  rcases hs with c | c
  · have neg : q.2 * m < 0 := Int.mul_neg_of_pos_of_neg hd c
    unfold red
    rw [if_pos neg]
    have v := low_val (n := -(q.1 * m)) (d := -(q.2 * m)) (by omega)
    generalize (low (-(q.1 * m)) (-(q.2 * m))).1 = x at *
    generalize (low (-(q.1 * m)) (-(q.2 * m))).2 = y at *
    have e : (x * q.2) * m = (q.1 * y) * m := by grind
    exact Int.eq_of_mul_eq_mul_right hm e
  · rw [red_pos (mul_pos' hd c)]
    have v := low_val (n := q.1 * m) (d := q.2 * m) hz
    generalize (low (q.1 * m) (q.2 * m)).1 = x at *
    generalize (low (q.1 * m) (q.2 * m)).2 = y at *
    have e : (x * q.2) * m = (q.1 * y) * m := by grind
    exact Int.eq_of_mul_eq_mul_right hm e
/-- a value that is a number, and the number -/
def GoodV (H : Hp) (v : V) (q : Pq) : Prop := ∃ d, Dq H v d ∧ exOk d ∧ exD d = some q ∧ Dt.ok 2 d ∧ d.fits
def spGood : Sp := fun vs H Q _ => ∃ (b c : Addr), vs = [.ref b] ∧ Bag H b c ∧ ∀ l v t n d H', delH H' b l = some (.lst [v, .ref t]) → GoodV (delH H' b) v (n, d) → delH H' b t = some (.tup [.int n, .int d]) → Big (n, d) → Same (delH H b) (delH H' b) → Bag H' b c → Q (.ref l) H'
theorem good_tup {H : Hp} {t : Addr} {n d m : Int} (h : H t = some (.tup [.int (n * m), .int (d * m)])) (hl : Lo (n, d)) (hm : m ≠ 0) (hs : (d * m).natAbs < 2 ^ 8900) : GoodV H (.ref t) (n, d) := by
  refine ⟨.tup [.int (n * m), .int (d * m)], .tup h (.cons (.int _) (.cons (.int _) .nil)), hs, ?_, ⟨Nat.le_of_ble_eq_true rfl, fun x hx => ?_⟩, hs⟩
  · show (if d * m = 0 then none else some (red (n * m) (d * m))) = _
    have hd : (0 : Int) < d := hl.1
    rw [if_neg (Int.mul_ne_zero (by omega) hm), red_more hl hm]
  · simp only [List.mem_cons, List.not_mem_nil, or_false] at hx
    rcases hx with rfl | rfl <;> trivial
theorem good_int {H : Hp} {n : Int} : GoodV H (.int n) (n, 1) := ⟨.int n, .int n, trivial, rfl, trivial, trivial⟩
theorem good_txt {H : Hp} {q : Pq} (h : Big q) : GoodV H (.str (txt q)) q := ⟨.str (txt q), .str _, Nat.le_trans (txt_len h) (by decide), read_txt h, trivial, trivial⟩
section
variable {H : Hp} {Q : VK} {E : XK} {b c : Addr}
theorem sp_good (k : ∀ l v t n d H', delH H' b l = some (.lst [v, .ref t]) → GoodV (delH H' b) v (n, d) → delH H' b t = some (.tup [.int n, .int d]) → Big (n, d) → Same (delH H b) (delH H' b) → Bag H' b c → Q (.ref l) H') (B : Bag H b c) : spGood [.ref b] H Q E := ⟨b, c, rfl, B, k⟩
theorem sp_ltextP {t : Addr} {n d : Int} (k : Q (.str (txt (n, d))) H) (h : H t = some (.tup [.int n, .int d])) (h0 : n.natAbs < 10 ^ 64) (h1 : d.natAbs < 10 ^ 64) : spLtext [.ref t] H Q E := ⟨t, (n, d), rfl, h, h0, h1, k⟩
end

local macro_rules | `(tactic| walk_at "hpS") => `(tactic| with_reducible first
  | exact Same.refl _
  | assumption
  | (refine' Same.trans ?hq (same_new (by assumption)); (case hq => walk_at "hpS"))
  | (refine' Same.trans ?hq (by assumption); (case hq => walk_at "hpS"))
  | fail)
local macro_rules | `(tactic| walk_at "hpH") => `(tactic| with_reducible first
  | assumption
  | exact upd_same
  | (refine' same_at (same_new (by assumption)) ?hq; (case hq => walk_at "hpH"))
  | (refine' same_at (by assumption) ?hq; (case hq => walk_at "hpH"))
  | fail)
local macro_rules | `(tactic| walk_at "hpTo") => `(tactic| with_reducible first
  | assumption
  | (refine' sq_t (same_new (by assumption)) ?hq; (case hq => walk_at "hpTo"))
  | (refine' sq_t (by assumption) ?hq; (case hq => walk_at "hpTo"))
  | fail)
local macro_rules | `(tactic| walk_at "hpT") => `(tactic| with_reducible first
  | (refine' SqT.of ?hq; (case hq => walk_at "hpH"))
  | walk_at "hpTo"
  | fail)
local macro_rules | `(tactic| walk_at "hpLo") => `(tactic| with_reducible first
  | assumption
  | (refine' sq_l (same_new (by assumption)) ?hq; (case hq => walk_at "hpLo"))
  | (refine' sq_l (by assumption) ?hq; (case hq => walk_at "hpLo"))
  | fail)
local macro_rules | `(tactic| walk_at "hpL") => `(tactic| with_reducible first
  | (refine' SqL.of ?hq; (case hq => walk_at "hpH"))
  | walk_at "hpLo"
  | fail)
local macro_rules | `(tactic| walk_at "kit") => `(tactic| with_reducible first
  | exact kit_int_bool | exact kit_int_int | exact kit_int_tuple | exact kit_int_list | exact kit_int_str
  | exact kit_tuple_tuple | exact kit_tuple_int | exact kit_tuple_bool | exact kit_tuple_list | exact kit_tuple_str
  | exact kit_bool_bool | exact kit_bool_int | exact kit_bool_tuple | exact kit_bool_list | exact kit_bool_str
  | exact kit_str_str | exact kit_str_int | exact kit_str_bool | exact kit_str_tuple | exact kit_str_list
  | exact kit_NoneType_int | exact kit_NoneType_bool | exact kit_NoneType_tuple | exact kit_NoneType_list | exact kit_NoneType_str
  | exact kit_list_list | exact kit_list_tuple | exact kit_list_int | exact kit_list_bool | exact kit_list_str
  | fail)
local macro_rules | `(tactic| walk_at "call") => `(tactic| fail)
local macro_rules | `(tactic| walk_at "s0") => `(tactic| with_reducible first
  | refine g_seq ?_ | refine g_asg ?_ | refine g_name ?_ | refine g_ifS ?_ | refine g_ret ?_ | refine g_retN ?_ | refine g_next ?_
  | refine g_par ?_ | refine g_parE ?_ | refine g_drop ?_
  | refine g_c ?_ | refine g_op ?_ | refine g_un ?_ | refine g_cb ?_ | refine g_call ?_ | refine g_nil ?_ | refine g_cons ?_ | refine g_tup ?_ | refine g_lst ?_
  | refine g_test ?_ | refine g_B ?_ | refine g_blF ?_ | refine g_and ?_ | refine g_or ?_ | refine g_not ?_ | refine g_andV ?_ | refine g_orV ?_ | refine g_notV ?_ | refine g_if ?_
  | refine iteT ?_ | refine iteF ?_
  | refine g_chain ?_ | refine g_sl ?_ | refine g_noPart ?_ | refine g_part ?_ | refine g_partI ?_ | refine g_slS ?_ ?side | refine g_M1 ?_ | refine g_M1s ?_ | refine g_starts ?_ | refine g_bm ?_ | refine g_bm0 ?_ | refine g_tyS ?_
  | refine g_Fs ?_ | refine g_JsN ?_ | refine g_JsC ?_ | refine g_JsE ?_ ?side | refine g_fmt ?_ | refine g_fmtI ?_ ?side | refine g_fmtS ?_ ?side | refine g_iList ?_ | refine g_iTup ?_ | refine g_iStr ?_ | refine g_iStrE ?_ | refine g_iRng1 ?_ | refine g_iRng1E ?_ ?side1 ?side2 | refine g_yes ?_ | refine g_ckw ?_ | refine g_dget ?_ | refine g_dictZip ?_ | refine g_gCons ?_ | refine g_gNil ?_ | refine g_revL ?_ | refine g_for ?_ | refine g_lc ?_ | refine g_addS ?_ ?side | refine g_str ?_ ?side | refine g_lenS ?_ ?side
  | refine g_rI0 ?_ | refine g_rI ?_ ?side | refine g_rU ?_ | refine g_abs ?_ | refine g_int ?_ | refine g_intB ?_ | refine g_gcd ?_ | refine g_inS ?_ | refine g_isN0 ?_ | refine g_notN0 ?_
  | fail)
local macro_rules | `(tactic| walk_at "s1") => `(tactic| first
  | ((with_reducible refine' g_var ?h ?_); (case h => exact rfl))
  | ((with_reducible refine' g_new ?h ?_); (case h => exact (by simp only [List.length_cons, List.length_nil]; decide)); intro tnew htnew)
  | ((with_reducible refine' iteDT ?h ?_); (case h => first | exact rfl | assumption))
  | ((with_reducible refine' iteNT ?h ?_); (case h => first | exact rfl | assumption))
  | ((with_reducible refine' iteDF ?h ?_); (case h => first | assumption | (intro z; cases z)))
  | ((with_reducible refine' iteNF ?h ?_); (case h => first | assumption | (intro z; cases z)))
  | ((with_reducible refine' g_eq ?_ ?h); (case h => exact rfl))
  | ((with_reducible refine' g_ne ?_ ?h); (case h => exact rfl))
  | ((with_reducible refine' g_ixT ?_ ?h ?e); (case h => walk_at "hpT"); (case e => first | exact rfl | exact atI_0 | exact atI_1))
  | ((with_reducible refine' g_ixL ?_ ?h ?e); (case h => walk_at "hpL"); (case e => first | exact rfl | exact atI_0 | exact atI_1))
  | ((with_reducible refine' g_isi_int ?_ ?h); (case h => walk_at "kit"))
  | ((with_reducible refine' g_isi_str ?_ ?h); (case h => walk_at "kit"))
  | ((with_reducible refine' g_isi_bl ?_ ?h); (case h => walk_at "kit"))
  | ((with_reducible refine' g_isi_non ?_ ?h); (case h => walk_at "kit"))
  | ((with_reducible refine' g_isi_t ?_ ?t ?h); (case t => walk_at "hpT"); (case h => walk_at "kit"))
  | ((with_reducible refine' g_isi_l ?_ ?t ?h ?l); (case l => walk_at "hpH"); (case t => walk_at "hpL"); (case h => walk_at "kit"))
  | ((with_reducible refine' g_lenT ?_ ?h); (case h => walk_at "hpT"))
  | ((with_reducible refine' g_lenL ?_ ?h); (case h => walk_at "hpL"))
  | ((with_reducible refine' g_split ?_ ?h ?side); (case h => exact rfl); intro pnew hpnew)
  | ((with_reducible refine' g_slL ?h ?_); (case h => walk_at "hpL"); intro pnew hpnew)
  | ((with_reducible refine' g_iListE ?_ ?h); (case h => walk_at "hpL"))
  | ((with_reducible refine' g_iTupE ?_ ?h); (case h => walk_at "hpT"))
  | ((with_reducible refine' g_tyL ?_ ?h); (case h => walk_at "hpL"))
  | ((with_reducible refine' g_join ?_ ?h ?side); (case h => walk_at "hpL"))
  | ((with_reducible refine' g_append ?_ ?h ?side); (case h => walk_at "hpH"))
  | ((with_reducible refine' g_all ?_ ?h); (case h => walk_at "hpL"))
  | ((with_reducible refine' g_gTup ?_ ?h ?n); (case h => walk_at "hpT"); (case n => exact rfl))
  | ((with_reducible refine' g_revLE ?h ?_); (case h => walk_at "hpL"); intro pnew hpnew)
  | ((with_reducible refine' g_isN1 ?_ ?h); (case h => first | assumption | (intro z; cases z)))
  | ((with_reducible refine' g_notN1 ?_ ?h); (case h => first | assumption | (intro z; cases z)))
  | walk_at "call"
  | ((with_reducible refine' iteBT ?h ?_); (case h => first | assumption | exact rfl))
  | ((with_reducible refine' iteBF ?h ?_); (case h => first | assumption | exact rfl))
  | fail)
local macro_rules | `(tactic| walk_at "nrm") => `(tactic| simp only [Bool.not_true, Bool.not_false, decide_eq_true_eq, decide_true, decide_false, Bool.true_and, Bool.false_and, Bool.and_true, Bool.and_false, V.int.injEq, V.bl.injEq, V.str.injEq, List.length_cons, List.length_nil, Bool.not_eq_true', decide_eq_false_iff_not, Int.not_lt, Int.not_le, reduceCtorEq, not_false_eq_true, not_true_eq_false, Decidable.not_not] at *)
local macro_rules | `(tactic| walk_at "sp") => `(tactic| ((with_reducible refine ite2 (fun c => ?_) (fun c => ?_)) <;> (try simp only [decide_eq_true_eq, Bool.not_eq_true', decide_eq_false_iff_not, V.int.injEq, V.bl.injEq, V.str.injEq, Int.not_lt, Int.not_le, reduceCtorEq, Decidable.not_not, Bool.false_eq_true, Bool.true_eq_false] at c) <;> (try (exfalso; omega))))
local macro_rules | `(tactic| walk_at "s") => `(tactic| first | walk_at "s0" | walk_at "s1" | fail)
local macro_rules | `(tactic| walk_at "go") => `(tactic| (try dsimp only [cxK, cxK']); repeat' walk_at "s")
local macro_rules | `(tactic| walk_at "gos") => `(tactic| ((try dsimp only [cxK, cxK']); repeat' (first | walk_at "s" | walk_at "sp" | fail)))

local macro_rules | `(tactic| walk_at "hpNo") => `(tactic| with_reducible first
  | assumption
  | (refine' Nm.ofPr ?hq; (case hq => assumption))
  | (refine' Nm.same (same_new (by assumption)) ?hq; (case hq => walk_at "hpNo"))
  | (refine' Nm.same (by assumption) ?hq; (case hq => walk_at "hpNo"))
  | fail)
local macro_rules | `(tactic| walk_at "hpN") => `(tactic| with_reducible first
  | walk_at "hpNo"
  | (refine' Nm.of ?hq; (case hq => walk_at "hpH"))
  | fail)
local macro_rules | `(tactic| walk_at "hpPo") => `(tactic| with_reducible first
  | assumption
  | (refine' Pr.same (same_new (by assumption)) ?hq; (case hq => walk_at "hpPo"))
  | (refine' Pr.same (by assumption) ?hq; (case hq => walk_at "hpPo"))
  | fail)
local macro_rules | `(tactic| walk_at "hpP") => `(tactic| with_reducible first
  | walk_at "hpPo"
  | (refine' Pr.of ?hq; (case hq => walk_at "hpH"))
  | fail)
local macro_rules | `(tactic| walk_at "hpDo") => `(tactic| with_reducible first
  | assumption
  | exact Dq.int _ | exact Dq.bl _ | exact Dq.str _ | exact Dq.non
  | (refine' Dq.same (same_new (by assumption)) ?hq; (case hq => walk_at "hpDo"))
  | (refine' Dq.same (by assumption) ?hq; (case hq => walk_at "hpDo"))
  | fail)
local macro_rules | `(tactic| walk_at "hpD") => `(tactic| with_reducible first
  | walk_at "hpDo"
  | fail)

local macro_rules | `(tactic| walk_at "hpM") => `(tactic| with_reducible first
  | assumption
  | (refine' mk_new ?hn ?hB; (case hn => assumption); (case hB => walk_at "hpB"))
  | (refine' mk_tup ?hn ?hB; (case hn => assumption); (case hB => walk_at "hpB"))
  | (refine' same_at (mk_upd (by assumption)) ?hq; (case hq => walk_at "hpM"))
  | (refine' same_at (show Same (delH _ _) (delH _ _) by assumption) ?hq; (case hq => walk_at "hpM"))
  | (refine' same_at (mk_mono (by assumption)) ?hq; (case hq => walk_at "hpM"))
  | fail)
local macro_rules | `(tactic| walk_at "hpSM") => `(tactic| with_reducible first
  | exact Same.refl _
  | assumption
  | (refine' Same.trans ?hq (mk_upd (by assumption)); (case hq => walk_at "hpSM"))
  | (refine' Same.trans ?hq (show Same (delH _ _) (delH _ _) by assumption); (case hq => walk_at "hpSM"))
  | (refine' Same.trans ?hq (mk_mono (by assumption)); (case hq => walk_at "hpSM"))
  | fail)
local macro_rules | `(tactic| walk_at "hpB") => `(tactic| with_reducible first
  | assumption
  | (refine' bag_upd ?hq (by assumption); (case hq => walk_at "hpB"))
  | (refine' bag_same ?hq (by assumption); (case hq => walk_at "hpB"))
  | fail)
local macro_rules | `(tactic| walk_at "hpHo") => `(tactic| with_reducible first
  | assumption
  | exact upd_same
  | (refine' same_at (same_new (by assumption)) ?hq; (case hq => walk_at "hpHo"))
  | (refine' same_at (by assumption) ?hq; (case hq => walk_at "hpHo"))
  | fail)
local macro_rules | `(tactic| walk_at "hpH") => `(tactic| with_reducible first
  | walk_at "hpHo"
  | (refine' same_at mk_same ?hq; (case hq => walk_at "hpM"))
  | fail)
local macro_rules | `(tactic| walk_at "hpNo") => `(tactic| with_reducible first
  | assumption
  | (refine' Nm.ofPr ?hq; (case hq => assumption))
  | (refine' Nm.same (same_new (by assumption)) ?hq; (case hq => walk_at "hpNo"))
  | (refine' Nm.same (by assumption) ?hq; (case hq => walk_at "hpNo"))
  | fail)
local macro_rules | `(tactic| walk_at "hpNMo") => `(tactic| with_reducible first
  | assumption
  | (refine' Nm.ofPr ?hq; (case hq => assumption))
  | (refine' Nm.same (mk_upd (by assumption)) ?hq; (case hq => walk_at "hpNMo"))
  | (refine' Nm.same (show Same (delH _ _) (delH _ _) by assumption) ?hq; (case hq => walk_at "hpNMo"))
  | (refine' Nm.same (mk_mono (by assumption)) ?hq; (case hq => walk_at "hpNMo"))
  | fail)
local macro_rules | `(tactic| walk_at "hpNM") => `(tactic| with_reducible first
  | walk_at "hpNMo"
  | (refine' Nm.of ?hq; (case hq => walk_at "hpM"))
  | fail)
local macro_rules | `(tactic| walk_at "hpN") => `(tactic| with_reducible first
  | walk_at "hpNo"
  | (refine' Nm.same mk_same ?hq; (case hq => walk_at "hpNMo"))
  | (refine' Nm.of ?hq; (case hq => walk_at "hpH"))
  | fail)
local macro_rules | `(tactic| walk_at "hpPo") => `(tactic| with_reducible first
  | assumption
  | (refine' Pr.same (same_new (by assumption)) ?hq; (case hq => walk_at "hpPo"))
  | (refine' Pr.same (by assumption) ?hq; (case hq => walk_at "hpPo"))
  | fail)
local macro_rules | `(tactic| walk_at "hpPMo") => `(tactic| with_reducible first
  | assumption
  | (refine' Pr.same (mk_upd (by assumption)) ?hq; (case hq => walk_at "hpPMo"))
  | (refine' Pr.same (show Same (delH _ _) (delH _ _) by assumption) ?hq; (case hq => walk_at "hpPMo"))
  | (refine' Pr.same (mk_mono (by assumption)) ?hq; (case hq => walk_at "hpPMo"))
  | fail)
local macro_rules | `(tactic| walk_at "hpPM") => `(tactic| with_reducible first
  | walk_at "hpPMo"
  | (refine' Pr.of ?hq; (case hq => walk_at "hpM"))
  | fail)
local macro_rules | `(tactic| walk_at "hpP") => `(tactic| with_reducible first
  | walk_at "hpPo"
  | (refine' Pr.same mk_same ?hq; (case hq => walk_at "hpPMo"))
  | (refine' Pr.of ?hq; (case hq => walk_at "hpH"))
  | fail)
local macro_rules | `(tactic| walk_at "hpDo") => `(tactic| with_reducible first
  | assumption
  | exact Dq.int _ | exact Dq.bl _ | exact Dq.str _ | exact Dq.non
  | (refine' Dq.same (same_new (by assumption)) ?hq; (case hq => walk_at "hpDo"))
  | (refine' Dq.same (by assumption) ?hq; (case hq => walk_at "hpDo"))
  | fail)
local macro_rules | `(tactic| walk_at "hpDMo") => `(tactic| with_reducible first
  | assumption
  | exact Dq.int _ | exact Dq.bl _ | exact Dq.str _ | exact Dq.non
  | (refine' Dq.same (mk_upd (by assumption)) ?hq; (case hq => walk_at "hpDMo"))
  | (refine' Dq.same (show Same (delH _ _) (delH _ _) by assumption) ?hq; (case hq => walk_at "hpDMo"))
  | (refine' Dq.same (mk_mono (by assumption)) ?hq; (case hq => walk_at "hpDMo"))
  | fail)
local macro_rules | `(tactic| walk_at "hpDM") => `(tactic| with_reducible first
  | walk_at "hpDMo"
  | fail)
local macro_rules | `(tactic| walk_at "hpD") => `(tactic| with_reducible first
  | walk_at "hpDo"
  | (refine' Dq.same mk_same ?hq; (case hq => walk_at "hpDMo"))
  | fail)
local macro_rules | `(tactic| walk_at "call") => `(tactic| first
  | ((with_reducible refine' sp_draw ?_ ?h ?side1 ?side2); (case h => walk_at "hpB"); intro idraw Hd' hi0 hi1 sd' bd')
  | fail)

local macro_rules | `(tactic| walk_at "call") => `(tactic| first
  | ((with_reducible refine' sp_draw ?_ ?h ?side1 ?side2); (case h => walk_at "hpB"); intro idraw Hd' hi0 hi1 sd' bd')
  | ((with_reducible refine' sp_ofK ?_ ?h ?B ?side1 ?side2); (case h => walk_at "hpM"); (case B => walk_at "hpB"); intro xof Ho' hxo so' bo')
  | ((with_reducible refine' sp_low ?h ?_ ?side1 ?side2); (case h => walk_at "hpH"); intro tp Hp' sp' hp')
  | ((with_reducible refine' sp_drawn ?_ ?B); (case B => walk_at "hpB"); intro tq nq dq Hq' hq' hqs sq' bq')
  | ((with_reducible refine' sp_ltextP ?_ ?h ?side1 ?side2); (case h => walk_at "hpH"))
  | fail)
section
variable {P : Program} {w : World} {K : Fg} {mg : Str → Option Value} {base : Heap} {f f1 f2 f3 f4 f5 : Addr} {fd : FuncData}
theorem ok_l_good (F : Fun K "_law_good" "_law_good" s_l_good f fd) (T : Blt mg) (D_l_draw : Df P w K mg base 1 "_law_draw" f1 ["_law_bag_here", "_law_many"] spDraw) (D_l_of : Df P w K mg base 2 "_law_of" f2 ["_law_bag_here", "_law_things"] spOf)
    (D_l_low : Df P w K mg base 1 "_law_low" f3 ["_law_one"] spLow) (D_l_drawn : Df P w K mg base 3 "_law_drawn" f4 ["_law_bag_here"] spDrawn) (D_l_text : Df P w K mg base 1 "_law_text" f5 ["_law_one"] spLtext) : FnOk P w K mg base CX0 4 f fd ["_law_bag_here"] spGood := by
  obtain ⟨_, G_l_draw, B_l_draw⟩ := D_l_draw.ok
  obtain ⟨_, G_l_of, B_l_of⟩ := D_l_of.ok
  obtain ⟨_, G_l_low, B_l_low⟩ := D_l_low.ok
  obtain ⟨_, G_l_drawn, B_l_drawn⟩ := D_l_drawn.ok
  obtain ⟨_, G_l_text, B_l_text⟩ := D_l_text.ok
  refine F.ok sc_l_good (fun vs H Q E h => ?_) (fun cdv A outer s H vs Q E hr h => ?_)
  · obtain ⟨b, c, rfl, _⟩ := h
    rfl
  · obtain ⟨b, c, rfl, B, k⟩ := h
    refine ⟨_, (pss_cons (ps_par (i := 1) (j := 2) rfl sc_l_good.nd rfl rfl (by decide) rfl rfl (pa_cons (pe_call G_l_drawn (hr.mono (by decide)) (by rfl) D_l_drawn.g D_l_drawn.kp B_l_drawn .nil pass0 (pa_cons (pv 0) pa_nil)) (pa_cons (pe_call G_l_draw (hr.mono (by decide)) (by rfl) D_l_draw.g D_l_draw.kp B_l_draw .nil pass0 (pa_cons (pv 0) (pa_cons pe_int pa_nil))) pa_nil)) rfl)
      (pss_cons (ps_if (pt_cmpR op_lt (pv 2) pe_int (nomark _))
      (pss_cons (ps_set (i := 3) sc_l_good.nd rfl (.inl rfl) (pe_call G_l_of (hr.mono (by decide)) (by rfl) D_l_of.g D_l_of.kp B_l_of .nil pass0 (pa_cons (pv 0) (pa_cons (pe_lst (pa_cons pe_int (pa_cons (pe_un un_neg pe_int) (pa_cons pe_int (pa_cons (pe_un un_neg pe_int) (pa_cons pe_int (pa_cons (pe_op op_add pe_int (pe_call G_l_draw (hr.mono (by decide)) (by rfl) D_l_draw.g D_l_draw.kp B_l_draw .nil pass0 (pa_cons (pv 0) (pa_cons (pe_op op_pow pe_int pe_int) pa_nil)))) pa_nil))))))) pa_nil))))
      (pss_one (ps_ret (pe_lst (pa_cons (pe_tup (pa_cons (pe_op op_mulW (pe_ix (ix_seqK K) (pv 1) pe_int (fun _ _ => rfl)) (pv 3)) (pa_cons (pe_op op_mulW (pe_ix (ix_seqK K) (pv 1) pe_int (fun _ _ => rfl)) (pv 3)) pa_nil))) (pa_cons (pv 1) pa_nil)))))) pss_nil)
      (pss_cons (ps_if (pt_cmpR op_eq (pv 2) pe_int (nomark _))
      (pss_one (ps_ret (pe_lst (pa_cons (pe_ix (ix_seqK K) (pv 1) pe_int (fun _ _ => rfl)) (pa_cons (pe_tup (pa_cons (pe_ix (ix_seqK K) (pv 1) pe_int (fun _ _ => rfl)) (pa_cons pe_int pa_nil))) pa_nil))))) pss_nil)
      (pss_cons (ps_if (pt_cmpR op_lt (pv 2) pe_int (nomark _))
      (pss_one (ps_ret (pe_lst (pa_cons (pe_call G_l_text (hr.mono (by decide)) (by rfl) D_l_text.g D_l_text.kp B_l_text .nil pass0 (pa_cons (pv 1) pa_nil)) (pa_cons (pv 1) pa_nil))))) pss_nil)
      (pss_cons (ps_set (i := 4) sc_l_good.nd rfl (.inl rfl) (pe_op op_add (pe_op op_pow pe_int pe_int) (pe_call G_l_draw (hr.mono (by decide)) (by rfl) D_l_draw.g D_l_draw.kp B_l_draw .nil pass0 (pa_cons (pv 0) (pa_cons (pe_op op_pow pe_int pe_int) pa_nil)))))
      (pss_cons (ps_set (i := 4) sc_l_good.nd rfl (.inl rfl) (pe_call G_l_of (hr.mono (by decide)) (by rfl) D_l_of.g D_l_of.kp B_l_of .nil pass0 (pa_cons (pv 0) (pa_cons (pe_lst (pa_cons (pe_tup (pa_cons (pv 4) (pa_cons pe_int pa_nil))) (pa_cons (pe_tup (pa_cons (pe_un un_neg (pv 4)) (pa_cons pe_int pa_nil))) (pa_cons (pe_tup (pa_cons (pv 4) (pa_cons (pe_op op_add (pv 4) pe_int) pa_nil))) (pa_cons (pe_tup (pa_cons (pe_op op_sub pe_int (pv 4)) (pa_cons (pv 4) pa_nil))) (pa_cons (pe_tup (pa_cons pe_int (pa_cons (pe_op op_pow pe_int pe_int) pa_nil))) (pa_cons (pe_tup (pa_cons (pe_op op_sub (pe_op op_pow pe_int pe_int) pe_int) (pa_cons pe_int pa_nil))) pa_nil))))))) pa_nil))))
      (pss_one (ps_ret (pe_lst (pa_cons (pe_call G_l_text (hr.mono (by decide)) (by rfl) D_l_text.g D_l_text.kp B_l_text .nil pass0 (pa_cons (pe_call G_l_low (hr.mono (by decide)) (by rfl) D_l_low.g D_l_low.kp B_l_low .nil pass0 (pa_cons (pv 4) pa_nil)) pa_nil)) (pa_cons (pe_call G_l_low (hr.mono (by decide)) (by rfl) D_l_low.g D_l_low.kp B_l_low .nil pass0 (pa_cons (pv 4) pa_nil)) pa_nil))))))))))), ?_⟩
    walk_at "gos"
    all_goals first
      | exact Nat.le_of_ble_eq_true rfl
      | (exact ⟨by decide, by decide, by decide⟩)
      | (show (0 : Int) < _; decide)
      | (show _ < (1073741824 : Int); decide)
      | (have h1 := (‹Small _›).2.1; have h2 := (‹Small _›).2.2; have h3 := (‹Small _›).1.1; dsimp only at h1 h2 h3; omega)
      | skip
    · rename_i t n d H1 ht hs s1 b1 j1 H2 j10 j11 s2 b2 jc i H3 i0 i1 s3 b3 p hp xo H4 hx s4 b4
      have e6 : (10 : Int) ^ Int.toNat 6 = 1000000 := rfl
      rw [e6] at i1
      obtain ⟨m, rfl, hm, hz⟩ : ∃ m : Int, xo = .int m ∧ m.natAbs ≤ 1000000 ∧ m ≠ 0 := by
        simp only [List.mem_cons, List.not_mem_nil, or_false] at hx
        rcases hx with rfl | rfl | rfl | rfl | rfl | rfl <;> exact ⟨_, rfl, by omega, by omega⟩
      have h1 := hs.2.1
      have h2 := hs.2.2
      have h3 := hs.1.1
      dsimp only at h1 h2 h3
      have hmul : (d * m).natAbs < 2 ^ 250 := by
        rw [Int.natAbs_mul]
        exact Nat.lt_of_le_of_lt (Nat.mul_le_mul (show d.natAbs ≤ 12 by omega) hm) (by decide)
      walk_at "go"
      all_goals first
        | exact mulS (by omega) (by omega)
        | skip
      refine' k _ _ _ _ _ _ ?h1 ?h2 ?h3 ?h4 ?h5 ?h6
      case h1 => walk_at "hpM"
      case h3 => walk_at "hpM"
      case h2 => exact good_tup (by walk_at "hpM") hs.1 hz (up8900 hmul)
      case h4 => exact hs.big
      case h5 => walk_at "hpSM"
      case h6 => walk_at "hpB"
    · have hs := ‹Small _›
      refine' k _ _ _ _ _ _ ?h1 ?h2 ?h3 ?h4 ?h5 ?h6
      case h1 => walk_at "hpM"
      case h3 => walk_at "hpM"
      case h2 => exact good_int
      case h4 => exact ⟨lo_int _, hs.big.2.1, by show Int.natAbs 1 < 10 ^ 60; decide⟩
      case h5 => walk_at "hpSM"
      case h6 => walk_at "hpB"
    · have hs := ‹Small _›
      refine' k _ _ _ _ _ _ ?h1 ?h2 ?h3 ?h4 ?h5 ?h6
      case h1 => walk_at "hpM"
      case h3 => walk_at "hpM"
      case h2 => exact good_txt hs.big
      case h4 => exact hs.big
      case h5 => walk_at "hpSM"
      case h6 => walk_at "hpB"
    · rename_i t n d H1 ht hs s1 b1 j1 H2 j10 j11 s2 b2 c1 c2 c3 i H3 i0 i1 s3 b3 p1 h1 p2 h2 p3 h3 p4 h4 p5 h5 p6 h6 p7 h7 xo H4 hx s4 b4
      have e9 : (10 : Int) ^ Int.toNat 9 = 1000000000 := rfl
      rw [e9] at i1
      have e59 : (10 : Int) ^ Int.toNat 59 = 10 ^ 59 := rfl
      have e60 : (10 : Int) ^ Int.toNat 60 = 10 ^ 60 := rfl
      obtain ⟨u, x, y, rfl, hu, y0, y1, x1⟩ : ∃ (u : Addr) (x y : Int), xo = .ref u ∧ delH H4 b u = some (.tup [.int x, .int y]) ∧ 0 < y ∧ y.natAbs < 10 ^ 60 ∧ x.natAbs < 10 ^ 60 := by
        simp only [List.mem_cons, List.not_mem_nil, or_false] at hx
        rcases hx with rfl | rfl | rfl | rfl | rfl | rfl
        all_goals exact ⟨_, _, _, rfl, by walk_at "hpM", by omega, by omega, by omega⟩
      have hl := low_lo (n := x) y0
      have ⟨l1, l2⟩ := low_le (n := x) (d := y) (by omega)
      have hb : Big (low x y) := ⟨hl, by omega, by omega⟩
      have n1 : (low x y).1.natAbs < 10 ^ 64 := Nat.lt_of_lt_of_le hb.2.1 (by decide)
      have n2 : (low x y).2.natAbs < 10 ^ 64 := Nat.lt_of_lt_of_le hb.2.2 (by decide)
      walk_at "go"
      all_goals first
        | exact y0
        | exact up8900 (by omega)
        | exact n1
        | exact n2
        | skip
      refine' k _ _ _ _ _ _ ?h1 ?h2 ?h3 ?h4 ?h5 ?h6
      case h1 => walk_at "hpM"
      case h3 => walk_at "hpM"
      case h2 => exact good_txt hb
      case h4 => exact hb
      case h5 => walk_at "hpSM"
      case h6 => walk_at "hpB"
end
end Ko


namespace Ko
open PySem L2 PySem.Spec PyProof.Rows Xm
/-- the text of no number -/
def Wr (x : Str) : Prop := readL (TL.tl x) = none ∧ x.length ≤ 10000
def WrV (v : V) : Prop := ∃ x, v = .str x ∧ Wr x
def spNearT : Sp := fun vs H Q _ => ∃ (b c t : Addr) (n d : Int), vs = [.ref b, .ref t] ∧ Bag H b c ∧ delH H b t = some (.tup [.int n, .int d]) ∧ Small (n, d) ∧ ∀ x H', Wr x → Same (delH H b) (delH H' b) → Bag H' b c → Q (.str x) H'
def Sh (x : Str) (n : Nat) : Prop := x.length ≤ n
theorem Sh.app {x y : Str} {n m : Nat} (h : Sh x n) (k : Sh y m) : Sh (x ++ y) (n + m) := by
  unfold Sh at *
  rw [TL.len_tl, TL.tl_append, List.length_append, ← TL.len_tl, ← TL.len_tl]
  omega
theorem Sh.int {i : Int} (h : i.natAbs < 10 ^ 64) : Sh (Str.ofString (toString i)) 65 := len_int (by decide) h
theorem Sh.txt {q : Pq} (h : Big q) : Sh (txt q) 200 := txt_len h
theorem Sh.lit (s : String) (h : s.length ≤ 4) (e : ((s : Str)).length ≤ 4 := by decide +kernel) : Sh (s : Str) 4 := e
theorem sh_sum {x y : Str} {n m : Nat} (h : Sh x n) (k : Sh y m) (l : n + m ≤ 10000) : x.length + y.length ≤ sizeLine := by
  rw [sizeLine_eq]
  unfold Sh at *
  omega
theorem sh_le {x : Str} {n : Nat} (h : Sh x n) (l : n ≤ 10000) : x.length ≤ 10000 := Nat.le_trans h l
theorem Sh.none : Sh Str.empty 0 := Nat.le_refl _
theorem sh_top {x : Str} {n : Nat} (h : Sh x n) (l : n ≤ 10000) : x.length ≤ sizeLine := by
  rw [sizeLine_eq]
  unfold Sh at *
  omega
theorem abs64 {n : Int} (h : n.natAbs < 10 ^ 64) : (if n < 0 then -n else n).natAbs < 10 ^ 64 := by
  split
  · rw [Int.natAbs_neg]
    exact h
  · exact h
local macro_rules | `(tactic| walk_at "sh") => `(tactic| first
  | (refine' Sh.app ?hx ?hy; (case hx => walk_at "sh"); (case hy => walk_at "sh"))
  | exact Sh.none
  | exact Sh.lit _ (by decide)
  | exact Sh.txt (by assumption)
  | exact Sh.int (by assumption)
  | exact Sh.int (abs64 (by omega))
  | exact Sh.int (by omega)
  | fail)
local macro_rules | `(tactic| walk_at "side") => `(tactic| first
  | exact Nat.le_of_ble_eq_true rfl
  | exact log_of (by assumption)
  | exact log_of (abs64 (by omega))
  | exact log_of (by omega)
  | (refine' sh_sum ?hx ?hy ?hl; (case hx => walk_at "sh"); (case hy => walk_at "sh"); (case hl => exact Nat.le_of_ble_eq_true rfl))
  | (refine' sh_top ?hx ?hl; (case hx => walk_at "sh"); (case hl => exact Nat.le_of_ble_eq_true rfl))
  | (refine' sh_le ?hx ?hl; (case hx => walk_at "sh"); (case hl => exact Nat.le_of_ble_eq_true rfl))
  | (exact ⟨by decide, by decide, by decide⟩)
  | (show (0 : Int) < _; decide)
  | (show _ < (1073741824 : Int); decide)
  | omega
  | fail)
theorem wr0 {n d : Int} (hb : Big (n, d)) : ∀ v ∈ [V.str (txt (n, d) ++ " "), V.str (" " ++ txt (n, d)), V.str (txt (n, d) ++ "\n"), V.str (txt (n, d) ++ "/"), V.str ("/" ++ txt (n, d)), V.str (txt (n, d) ++ "-")], WrV v := by
  intro v hv
  have hd : 0 < d := hb.1.1
  have ne : TL.tl (txt (n, d)) ≠ [] := by
    rw [tl_txt hd]
    split
    · exact tlI_ne _
    · simp
  simp only [List.mem_cons, List.not_mem_nil, or_false] at hv
  rcases hv with rfl | rfl | rfl | rfl | rfl | rfl
  all_goals refine ⟨_, rfl, ?_, by walk_at "side"⟩
  all_goals simp only [TL.tl_append, tlc0, tlc1, tl_slash, tl_dash]
  · exact bad_char (c := 32) (by simp) (by decide) (by decide) (by decide)
  · exact bad_char (c := 32) (by simp) (by decide) (by decide) (by decide)
  · exact bad_char (c := 10) (by simp) (by decide) (by decide) (by decide)
  · rw [tl_txt hd]
    split
    · exact bad_rest no_nil (by simp)
    · rw [List.append_assoc]
      exact bad_three (a := TL.numL _) (b := [])
  · exact bad_first
  · exact bad_dash (dash_app ne (by simp))
theorem wr1 {n : Int} (hn : n.natAbs < 10 ^ 64) : ∀ v ∈ [V.str ("+" ++ Str.ofString (toString (if n < 0 then -n else n))), V.str ("0" ++ Str.ofString (toString (if n < 0 then -n else n))), V.str "-0", V.str "00", V.str ("-0" ++ Str.ofString (toString (if n < 0 then -n else n))), V.str ("--" ++ Str.ofString (toString (if n < 0 then -n else n)))], WrV v := by
  intro v hv
  simp only [List.mem_cons, List.not_mem_nil, or_false] at hv
  rcases hv with rfl | rfl | rfl | rfl | rfl | rfl
  all_goals refine ⟨_, rfl, ?_, by walk_at "side"⟩
  all_goals simp only [TL.tl_append, tl_int, tlI_abs, tlc0, tlc1, tlc3, tlc4, tlc5, tlc6, tlc7, tlc8, tlc9, tlc10, tlc11, tlc12, tlc13, tlc14, tlc15, tlc16, tlc17, tlc18, tlc19, tlc20, tlc21, tlc22, tlc23, tlc24, tlc25, tlc26, tlc27, tlc28, tl_slash, tl_dash, tl_zero, List.cons_append, List.nil_append]
  · exact bad_char (c := 43) (by simp) (by decide) (by decide) (by decide)
  · exact bad_zero
  · decide
  · decide
  · exact bad_zeroD
  · exact bad_dash (by simp)
theorem wr2 {n d m : Int} (hd : 0 < d) (hm : 1 < m) : readL (TL.tl (Str.empty ++ Str.ofString (toString (n * m)) ++ "/" ++ Str.ofString (toString (d * m)))) = none := by
  have hp : 0 < d * m := mul_pos' hd (by omega)
  simp only [TL.tl_append, tl_int, tl_none, tl_slash, List.nil_append, List.append_assoc, List.cons_append]
  rw [tlI_pos (by omega : 0 ≤ d * m)]
  refine bad_two (.inr ?_)
  rw [Int.natAbs_mul, Int.natAbs_mul]
  have h1 : m.natAbs ∣ Nat.gcd (n.natAbs * m.natAbs) (d.natAbs * m.natAbs) := Nat.dvd_gcd (Nat.dvd_mul_left ..) (Nat.dvd_mul_left ..)
  have h2 : 0 < Nat.gcd (n.natAbs * m.natAbs) (d.natAbs * m.natAbs) := Nat.gcd_pos_of_pos_right _ (Nat.mul_pos (by omega) (by omega))
  have := Nat.le_of_dvd h2 h1
  omega
theorem wr3 {n d : Int} (hd : 0 < d) (hn : n.natAbs < 10 ^ 64) (hd2 : d.natAbs < 10 ^ 64) : ∀ v ∈ [V.str (Str.empty ++ Str.ofString (toString n) ++ "/1"), V.str (Str.empty ++ Str.ofString (toString n) ++ "/0"), V.str (Str.empty ++ Str.ofString (toString n) ++ "/-" ++ Str.ofString (toString d)),
    V.str (Str.empty ++ Str.ofString (toString n) ++ "/0" ++ Str.ofString (toString d)), V.str (Str.empty ++ Str.ofString (toString n) ++ " /" ++ Str.ofString (toString d)), V.str (Str.empty ++ Str.ofString (toString n) ++ "/ " ++ Str.ofString (toString d))], WrV v := by
  intro v hv
  simp only [List.mem_cons, List.not_mem_nil, or_false] at hv
  rcases hv with rfl | rfl | rfl | rfl | rfl | rfl
  all_goals refine ⟨_, rfl, ?_, by walk_at "side"⟩
  all_goals simp only [TL.tl_append, tl_int, tl_none, tlI_pos (show 0 ≤ d by omega), tlc0, tlc1, tlc3, tlc4, tlc5, tlc6, tlc7, tlc8, tlc9, tlc10, tlc11, tlc12, tlc13, tlc14, tlc15, tlc16, tlc17, tlc18, tlc19, tlc20, tlc21, tlc22, tlc23, tlc24, tlc25, tlc26, tlc27, tlc28, tl_slash, tl_dash, tl_zero, List.cons_append, List.nil_append, List.append_assoc]
  · exact bad_two (n := n) (d := 1) (.inl (by decide))
  · exact bad_two (n := n) (d := 0) (.inl (by decide))
  · exact bad_dash (dash_app (tlI_ne n) (by simp))
  · exact bad_rest (no_zero (TL.numL_ne _)) (fun z => by rcases List.mem_cons.mp z with e | e; cases e; exact numL_sl e)
  · exact bad_char (c := 32) (by simp) (by decide) (by decide) (by decide)
  · exact bad_char (c := 32) (by simp) (by decide) (by decide) (by decide)
theorem wr4 {n : Int} (hn : n.natAbs < 10 ^ 64) : ∀ v ∈ [V.str (Str.empty ++ Str.ofString (toString n) ++ ".5"), V.str (Str.empty ++ Str.ofString (toString n) ++ ".0"), V.str "", V.str "-", V.str "/", V.str (Str.empty ++ Str.ofString (toString n) ++ "e1"),
    V.str (Str.empty ++ "0x" ++ Str.ofString (toString (if n < 0 then -n else n))), V.str (Str.empty ++ "1_" ++ Str.ofString (toString (if n < 0 then -n else n))), V.str "one", V.str "a/b"], WrV v := by
  intro v hv
  simp only [List.mem_cons, List.not_mem_nil, or_false] at hv
  rcases hv with rfl | rfl | rfl | rfl | rfl | rfl | rfl | rfl | rfl | rfl
  all_goals refine ⟨_, rfl, ?_, by walk_at "side"⟩
  all_goals simp only [TL.tl_append, tl_int, tl_none, tlI_abs, tlc0, tlc1, tlc3, tlc4, tlc5, tlc6, tlc7, tlc8, tlc9, tlc10, tlc11, tlc12, tlc13, tlc14, tlc15, tlc16, tlc17, tlc18, tlc19, tlc20, tlc21, tlc22, tlc23, tlc24, tlc25, tlc26, tlc27, tlc28, tl_slash, tl_dash, tl_zero, List.cons_append, List.nil_append, List.append_assoc]
  · exact bad_char (c := 46) (by simp) (by decide) (by decide) (by decide)
  · exact bad_char (c := 46) (by simp) (by decide) (by decide) (by decide)
  · decide
  · decide
  · exact bad_first
  · exact bad_char (c := 101) (by simp) (by decide) (by decide) (by decide)
  · exact bad_char (c := 120) (by simp) (by decide) (by decide) (by decide)
  · exact bad_char (c := 95) (by simp) (by decide) (by decide) (by decide)
  · exact bad_char (c := 111) (by simp) (by decide) (by decide) (by decide)
  · exact bad_char (c := 97) (by simp) (by decide) (by decide) (by decide)
theorem wr5 {g : Int} (h0 : 10 ^ 60 ≤ g) (h1 : g < 10 ^ 60 + 1000) : ∀ v ∈ [V.str (Str.ofString (toString g)), V.str (Str.ofString (toString (-g))), V.str (Str.empty ++ "1/" ++ Str.ofString (toString g)), V.str (Str.empty ++ Str.ofString (toString g) ++ "/" ++ Str.ofString (toString (g + 1))),
    V.str (Str.empty ++ "-3/" ++ Str.ofString (toString (g + 1 - g % 3))), V.str (Str.empty ++ Str.ofString (toString g) ++ "/7")], WrV v := by
  intro v hv
  simp only [List.mem_cons, List.not_mem_nil, or_false] at hv
  rcases hv with rfl | rfl | rfl | rfl | rfl | rfl
  all_goals refine ⟨_, rfl, ?_, by walk_at "side"⟩
  all_goals simp only [TL.tl_append, tl_int, tl_none, tlc0, tlc1, tlc3, tlc4, tlc5, tlc6, tlc7, tlc8, tlc9, tlc10, tlc11, tlc12, tlc13, tlc14, tlc15, tlc16, tlc17, tlc18, tlc19, tlc20, tlc21, tlc22, tlc23, tlc24, tlc25, tlc26, tlc27, tlc28, tl_slash, tl_dash, tl_zero, List.cons_append, List.nil_append, List.append_assoc]
  · exact bad_big (by omega)
  · exact bad_big (by omega)
  · rw [tlI_pos (by omega : 0 ≤ g)]
    exact bad_rest (n := 1) (big_num (n := g.natAbs) (by omega)) numL_sl
  · exact bad_bigL (by omega)
  · rw [tlI_pos (by omega : 0 ≤ g + 1 - g % 3)]
    exact bad_rest (n := -3) (big_num (n := (g + 1 - g % 3).natAbs) (by omega)) numL_sl
  · exact bad_bigL (by omega)
theorem wr6 {n d : Int} (hd : 0 < d) (hn : n.natAbs < 10 ^ 60) (hd2 : d.natAbs < 10 ^ 60) : ∀ v ∈ [V.str (Str.empty ++ Str.ofString (toString n) ++ "/" ++ Str.ofString (toString d) ++ "/" ++ Str.ofString (toString d)), V.str (Str.empty ++ "(" ++ Str.ofString (toString n) ++ ", " ++ Str.ofString (toString d) ++ ")"),
    V.str (Str.empty ++ Str.ofString (toString n) ++ "," ++ Str.ofString (toString d)), V.str (Str.empty ++ Str.ofString (toString n) ++ "//" ++ Str.ofString (toString (d + 1))), V.str (Str.empty ++ Str.ofString (toString n) ++ ":2")], WrV v := by
  intro v hv
  simp only [List.mem_cons, List.not_mem_nil, or_false] at hv
  rcases hv with rfl | rfl | rfl | rfl | rfl
  all_goals refine ⟨_, rfl, ?_, by walk_at "side"⟩
  all_goals simp only [TL.tl_append, tl_int, tl_none, tlc0, tlc1, tlc3, tlc4, tlc5, tlc6, tlc7, tlc8, tlc9, tlc10, tlc11, tlc12, tlc13, tlc14, tlc15, tlc16, tlc17, tlc18, tlc19, tlc20, tlc21, tlc22, tlc23, tlc24, tlc25, tlc26, tlc27, tlc28, tl_slash, tl_dash, tl_zero, List.cons_append, List.nil_append, List.append_assoc]
  · exact bad_three
  · exact bad_char (c := 40) (by simp) (by decide) (by decide) (by decide)
  · exact bad_char (c := 44) (by simp) (by decide) (by decide) (by decide)
  · exact bad_three (a := [])
  · exact bad_char (c := 58) (by simp) (by decide) (by decide) (by decide)

local macro_rules | `(tactic| walk_at "hpS") => `(tactic| with_reducible first
  | exact Same.refl _
  | assumption
  | (refine' Same.trans ?hq (same_new (by assumption)); (case hq => walk_at "hpS"))
  | (refine' Same.trans ?hq (by assumption); (case hq => walk_at "hpS"))
  | fail)
local macro_rules | `(tactic| walk_at "hpH") => `(tactic| with_reducible first
  | assumption
  | exact upd_same
  | (refine' same_at (same_new (by assumption)) ?hq; (case hq => walk_at "hpH"))
  | (refine' same_at (by assumption) ?hq; (case hq => walk_at "hpH"))
  | fail)
local macro_rules | `(tactic| walk_at "hpTo") => `(tactic| with_reducible first
  | assumption
  | (refine' sq_t (same_new (by assumption)) ?hq; (case hq => walk_at "hpTo"))
  | (refine' sq_t (by assumption) ?hq; (case hq => walk_at "hpTo"))
  | fail)
local macro_rules | `(tactic| walk_at "hpT") => `(tactic| with_reducible first
  | (refine' SqT.of ?hq; (case hq => walk_at "hpH"))
  | walk_at "hpTo"
  | fail)
local macro_rules | `(tactic| walk_at "hpLo") => `(tactic| with_reducible first
  | assumption
  | (refine' sq_l (same_new (by assumption)) ?hq; (case hq => walk_at "hpLo"))
  | (refine' sq_l (by assumption) ?hq; (case hq => walk_at "hpLo"))
  | fail)
local macro_rules | `(tactic| walk_at "hpL") => `(tactic| with_reducible first
  | (refine' SqL.of ?hq; (case hq => walk_at "hpH"))
  | walk_at "hpLo"
  | fail)
local macro_rules | `(tactic| walk_at "kit") => `(tactic| with_reducible first
  | exact kit_int_bool | exact kit_int_int | exact kit_int_tuple | exact kit_int_list | exact kit_int_str
  | exact kit_tuple_tuple | exact kit_tuple_int | exact kit_tuple_bool | exact kit_tuple_list | exact kit_tuple_str
  | exact kit_bool_bool | exact kit_bool_int | exact kit_bool_tuple | exact kit_bool_list | exact kit_bool_str
  | exact kit_str_str | exact kit_str_int | exact kit_str_bool | exact kit_str_tuple | exact kit_str_list
  | exact kit_NoneType_int | exact kit_NoneType_bool | exact kit_NoneType_tuple | exact kit_NoneType_list | exact kit_NoneType_str
  | exact kit_list_list | exact kit_list_tuple | exact kit_list_int | exact kit_list_bool | exact kit_list_str
  | fail)
local macro_rules | `(tactic| walk_at "call") => `(tactic| fail)
local macro_rules | `(tactic| walk_at "s0") => `(tactic| with_reducible first
  | refine g_seq ?_ | refine g_asg ?_ | refine g_name ?_ | refine g_ifS ?_ | refine g_ret ?_ | refine g_retN ?_ | refine g_next ?_
  | refine g_par ?_ | refine g_parE ?_ | refine g_drop ?_
  | refine g_c ?_ | refine g_op ?_ | refine g_un ?_ | refine g_cb ?_ | refine g_call ?_ | refine g_nil ?_ | refine g_cons ?_ | refine g_tup ?_ | refine g_lst ?_
  | refine g_test ?_ | refine g_B ?_ | refine g_blF ?_ | refine g_and ?_ | refine g_or ?_ | refine g_not ?_ | refine g_andV ?_ | refine g_orV ?_ | refine g_notV ?_ | refine g_if ?_
  | refine iteT ?_ | refine iteF ?_
  | refine g_chain ?_ | refine g_sl ?_ | refine g_noPart ?_ | refine g_part ?_ | refine g_partI ?_ | refine g_slS ?_ ?side | refine g_M1 ?_ | refine g_M1s ?_ | refine g_starts ?_ | refine g_bm ?_ | refine g_bm0 ?_ | refine g_tyS ?_
  | refine g_Fs ?_ | refine g_JsN ?_ | refine g_JsC ?_ | refine g_JsE ?_ ?side | refine g_fmt ?_ | refine g_fmtI ?_ ?side | refine g_fmtS ?_ ?side | refine g_iList ?_ | refine g_iTup ?_ | refine g_iStr ?_ | refine g_iStrE ?_ | refine g_iRng1 ?_ | refine g_iRng1E ?_ ?side1 ?side2 | refine g_yes ?_ | refine g_ckw ?_ | refine g_dget ?_ | refine g_dictZip ?_ | refine g_gCons ?_ | refine g_gNil ?_ | refine g_revL ?_ | refine g_for ?_ | refine g_lc ?_ | refine g_addS ?_ ?side | refine g_str ?_ ?side | refine g_lenS ?_ ?side
  | refine g_rI0 ?_ | refine g_rI ?_ ?side | refine g_rU ?_ | refine g_abs ?_ | refine g_int ?_ | refine g_intB ?_ | refine g_gcd ?_ | refine g_inS ?_ | refine g_isN0 ?_ | refine g_notN0 ?_
  | fail)
local macro_rules | `(tactic| walk_at "s1") => `(tactic| first
  | ((with_reducible refine' g_var ?h ?_); (case h => exact rfl))
  | ((with_reducible refine' g_new ?h ?_); (case h => exact (by simp only [List.length_cons, List.length_nil]; decide)); intro tnew htnew)
  | ((with_reducible refine' iteDT ?h ?_); (case h => first | exact rfl | assumption))
  | ((with_reducible refine' iteNT ?h ?_); (case h => first | exact rfl | assumption))
  | ((with_reducible refine' iteDF ?h ?_); (case h => first | assumption | (intro z; cases z)))
  | ((with_reducible refine' iteNF ?h ?_); (case h => first | assumption | (intro z; cases z)))
  | ((with_reducible refine' g_eq ?_ ?h); (case h => exact rfl))
  | ((with_reducible refine' g_ne ?_ ?h); (case h => exact rfl))
  | ((with_reducible refine' g_ixT ?_ ?h ?e); (case h => walk_at "hpT"); (case e => first | exact rfl | exact atI_0 | exact atI_1))
  | ((with_reducible refine' g_ixL ?_ ?h ?e); (case h => walk_at "hpL"); (case e => first | exact rfl | exact atI_0 | exact atI_1))
  | ((with_reducible refine' g_isi_int ?_ ?h); (case h => walk_at "kit"))
  | ((with_reducible refine' g_isi_str ?_ ?h); (case h => walk_at "kit"))
  | ((with_reducible refine' g_isi_bl ?_ ?h); (case h => walk_at "kit"))
  | ((with_reducible refine' g_isi_non ?_ ?h); (case h => walk_at "kit"))
  | ((with_reducible refine' g_isi_t ?_ ?t ?h); (case t => walk_at "hpT"); (case h => walk_at "kit"))
  | ((with_reducible refine' g_isi_l ?_ ?t ?h ?l); (case l => walk_at "hpH"); (case t => walk_at "hpL"); (case h => walk_at "kit"))
  | ((with_reducible refine' g_lenT ?_ ?h); (case h => walk_at "hpT"))
  | ((with_reducible refine' g_lenL ?_ ?h); (case h => walk_at "hpL"))
  | ((with_reducible refine' g_split ?_ ?h ?side); (case h => exact rfl); intro pnew hpnew)
  | ((with_reducible refine' g_slL ?h ?_); (case h => walk_at "hpL"); intro pnew hpnew)
  | ((with_reducible refine' g_iListE ?_ ?h); (case h => walk_at "hpL"))
  | ((with_reducible refine' g_iTupE ?_ ?h); (case h => walk_at "hpT"))
  | ((with_reducible refine' g_tyL ?_ ?h); (case h => walk_at "hpL"))
  | ((with_reducible refine' g_join ?_ ?h ?side); (case h => walk_at "hpL"))
  | ((with_reducible refine' g_append ?_ ?h ?side); (case h => walk_at "hpH"))
  | ((with_reducible refine' g_all ?_ ?h); (case h => walk_at "hpL"))
  | ((with_reducible refine' g_gTup ?_ ?h ?n); (case h => walk_at "hpT"); (case n => exact rfl))
  | ((with_reducible refine' g_revLE ?h ?_); (case h => walk_at "hpL"); intro pnew hpnew)
  | ((with_reducible refine' g_isN1 ?_ ?h); (case h => first | assumption | (intro z; cases z)))
  | ((with_reducible refine' g_notN1 ?_ ?h); (case h => first | assumption | (intro z; cases z)))
  | walk_at "call"
  | ((with_reducible refine' iteBT ?h ?_); (case h => first | assumption | exact rfl))
  | ((with_reducible refine' iteBF ?h ?_); (case h => first | assumption | exact rfl))
  | fail)
local macro_rules | `(tactic| walk_at "nrm") => `(tactic| simp only [Bool.not_true, Bool.not_false, decide_eq_true_eq, decide_true, decide_false, Bool.true_and, Bool.false_and, Bool.and_true, Bool.and_false, V.int.injEq, V.bl.injEq, V.str.injEq, List.length_cons, List.length_nil, Bool.not_eq_true', decide_eq_false_iff_not, Int.not_lt, Int.not_le, reduceCtorEq, not_false_eq_true, not_true_eq_false, Decidable.not_not] at *)
local macro_rules | `(tactic| walk_at "sp") => `(tactic| ((with_reducible refine ite2 (fun c => ?_) (fun c => ?_)) <;> (try simp only [decide_eq_true_eq, Bool.not_eq_true', decide_eq_false_iff_not, V.int.injEq, V.bl.injEq, V.str.injEq, Int.not_lt, Int.not_le, reduceCtorEq, Decidable.not_not, Bool.false_eq_true, Bool.true_eq_false] at c) <;> (try (exfalso; omega))))
local macro_rules | `(tactic| walk_at "s") => `(tactic| first | walk_at "s0" | walk_at "s1" | fail)
local macro_rules | `(tactic| walk_at "go") => `(tactic| (try dsimp only [cxK, cxK']); repeat' walk_at "s")
local macro_rules | `(tactic| walk_at "gos") => `(tactic| ((try dsimp only [cxK, cxK']); repeat' (first | walk_at "s" | walk_at "sp" | fail)))

local macro_rules | `(tactic| walk_at "hpNo") => `(tactic| with_reducible first
  | assumption
  | (refine' Nm.ofPr ?hq; (case hq => assumption))
  | (refine' Nm.same (same_new (by assumption)) ?hq; (case hq => walk_at "hpNo"))
  | (refine' Nm.same (by assumption) ?hq; (case hq => walk_at "hpNo"))
  | fail)
local macro_rules | `(tactic| walk_at "hpN") => `(tactic| with_reducible first
  | walk_at "hpNo"
  | (refine' Nm.of ?hq; (case hq => walk_at "hpH"))
  | fail)
local macro_rules | `(tactic| walk_at "hpPo") => `(tactic| with_reducible first
  | assumption
  | (refine' Pr.same (same_new (by assumption)) ?hq; (case hq => walk_at "hpPo"))
  | (refine' Pr.same (by assumption) ?hq; (case hq => walk_at "hpPo"))
  | fail)
local macro_rules | `(tactic| walk_at "hpP") => `(tactic| with_reducible first
  | walk_at "hpPo"
  | (refine' Pr.of ?hq; (case hq => walk_at "hpH"))
  | fail)
local macro_rules | `(tactic| walk_at "hpDo") => `(tactic| with_reducible first
  | assumption
  | exact Dq.int _ | exact Dq.bl _ | exact Dq.str _ | exact Dq.non
  | (refine' Dq.same (same_new (by assumption)) ?hq; (case hq => walk_at "hpDo"))
  | (refine' Dq.same (by assumption) ?hq; (case hq => walk_at "hpDo"))
  | fail)
local macro_rules | `(tactic| walk_at "hpD") => `(tactic| with_reducible first
  | walk_at "hpDo"
  | fail)

local macro_rules | `(tactic| walk_at "hpM") => `(tactic| with_reducible first
  | assumption
  | (refine' mk_new ?hn ?hB; (case hn => assumption); (case hB => walk_at "hpB"))
  | (refine' mk_tup ?hn ?hB; (case hn => assumption); (case hB => walk_at "hpB"))
  | (refine' same_at (mk_upd (by assumption)) ?hq; (case hq => walk_at "hpM"))
  | (refine' same_at (show Same (delH _ _) (delH _ _) by assumption) ?hq; (case hq => walk_at "hpM"))
  | (refine' same_at (mk_mono (by assumption)) ?hq; (case hq => walk_at "hpM"))
  | fail)
local macro_rules | `(tactic| walk_at "hpSM") => `(tactic| with_reducible first
  | exact Same.refl _
  | assumption
  | (refine' Same.trans ?hq (mk_upd (by assumption)); (case hq => walk_at "hpSM"))
  | (refine' Same.trans ?hq (show Same (delH _ _) (delH _ _) by assumption); (case hq => walk_at "hpSM"))
  | (refine' Same.trans ?hq (mk_mono (by assumption)); (case hq => walk_at "hpSM"))
  | fail)
local macro_rules | `(tactic| walk_at "hpB") => `(tactic| with_reducible first
  | assumption
  | (refine' bag_upd ?hq (by assumption); (case hq => walk_at "hpB"))
  | (refine' bag_same ?hq (by assumption); (case hq => walk_at "hpB"))
  | fail)
local macro_rules | `(tactic| walk_at "hpHo") => `(tactic| with_reducible first
  | assumption
  | exact upd_same
  | (refine' same_at (same_new (by assumption)) ?hq; (case hq => walk_at "hpHo"))
  | (refine' same_at (by assumption) ?hq; (case hq => walk_at "hpHo"))
  | fail)
local macro_rules | `(tactic| walk_at "hpH") => `(tactic| with_reducible first
  | walk_at "hpHo"
  | (refine' same_at mk_same ?hq; (case hq => walk_at "hpM"))
  | fail)
local macro_rules | `(tactic| walk_at "hpNo") => `(tactic| with_reducible first
  | assumption
  | (refine' Nm.ofPr ?hq; (case hq => assumption))
  | (refine' Nm.same (same_new (by assumption)) ?hq; (case hq => walk_at "hpNo"))
  | (refine' Nm.same (by assumption) ?hq; (case hq => walk_at "hpNo"))
  | fail)
local macro_rules | `(tactic| walk_at "hpNMo") => `(tactic| with_reducible first
  | assumption
  | (refine' Nm.ofPr ?hq; (case hq => assumption))
  | (refine' Nm.same (mk_upd (by assumption)) ?hq; (case hq => walk_at "hpNMo"))
  | (refine' Nm.same (show Same (delH _ _) (delH _ _) by assumption) ?hq; (case hq => walk_at "hpNMo"))
  | (refine' Nm.same (mk_mono (by assumption)) ?hq; (case hq => walk_at "hpNMo"))
  | fail)
local macro_rules | `(tactic| walk_at "hpNM") => `(tactic| with_reducible first
  | walk_at "hpNMo"
  | (refine' Nm.of ?hq; (case hq => walk_at "hpM"))
  | fail)
local macro_rules | `(tactic| walk_at "hpN") => `(tactic| with_reducible first
  | walk_at "hpNo"
  | (refine' Nm.same mk_same ?hq; (case hq => walk_at "hpNMo"))
  | (refine' Nm.of ?hq; (case hq => walk_at "hpH"))
  | fail)
local macro_rules | `(tactic| walk_at "hpPo") => `(tactic| with_reducible first
  | assumption
  | (refine' Pr.same (same_new (by assumption)) ?hq; (case hq => walk_at "hpPo"))
  | (refine' Pr.same (by assumption) ?hq; (case hq => walk_at "hpPo"))
  | fail)
local macro_rules | `(tactic| walk_at "hpPMo") => `(tactic| with_reducible first
  | assumption
  | (refine' Pr.same (mk_upd (by assumption)) ?hq; (case hq => walk_at "hpPMo"))
  | (refine' Pr.same (show Same (delH _ _) (delH _ _) by assumption) ?hq; (case hq => walk_at "hpPMo"))
  | (refine' Pr.same (mk_mono (by assumption)) ?hq; (case hq => walk_at "hpPMo"))
  | fail)
local macro_rules | `(tactic| walk_at "hpPM") => `(tactic| with_reducible first
  | walk_at "hpPMo"
  | (refine' Pr.of ?hq; (case hq => walk_at "hpM"))
  | fail)
local macro_rules | `(tactic| walk_at "hpP") => `(tactic| with_reducible first
  | walk_at "hpPo"
  | (refine' Pr.same mk_same ?hq; (case hq => walk_at "hpPMo"))
  | (refine' Pr.of ?hq; (case hq => walk_at "hpH"))
  | fail)
local macro_rules | `(tactic| walk_at "hpDo") => `(tactic| with_reducible first
  | assumption
  | exact Dq.int _ | exact Dq.bl _ | exact Dq.str _ | exact Dq.non
  | (refine' Dq.same (same_new (by assumption)) ?hq; (case hq => walk_at "hpDo"))
  | (refine' Dq.same (by assumption) ?hq; (case hq => walk_at "hpDo"))
  | fail)
local macro_rules | `(tactic| walk_at "hpDMo") => `(tactic| with_reducible first
  | assumption
  | exact Dq.int _ | exact Dq.bl _ | exact Dq.str _ | exact Dq.non
  | (refine' Dq.same (mk_upd (by assumption)) ?hq; (case hq => walk_at "hpDMo"))
  | (refine' Dq.same (show Same (delH _ _) (delH _ _) by assumption) ?hq; (case hq => walk_at "hpDMo"))
  | (refine' Dq.same (mk_mono (by assumption)) ?hq; (case hq => walk_at "hpDMo"))
  | fail)
local macro_rules | `(tactic| walk_at "hpDM") => `(tactic| with_reducible first
  | walk_at "hpDMo"
  | fail)
local macro_rules | `(tactic| walk_at "hpD") => `(tactic| with_reducible first
  | walk_at "hpDo"
  | (refine' Dq.same mk_same ?hq; (case hq => walk_at "hpDMo"))
  | fail)
local macro_rules | `(tactic| walk_at "call") => `(tactic| first
  | ((with_reducible refine' sp_draw ?_ ?h ?side1 ?side2); (case h => walk_at "hpB"); intro idraw Hd' hi0 hi1 sd' bd')
  | fail)

local macro_rules | `(tactic| walk_at "call") => `(tactic| first
  | ((with_reducible refine' sp_draw ?_ ?h ?side1 ?side2); (case h => walk_at "hpB"); intro idraw Hd' hi0 hi1 sd' bd')
  | ((with_reducible refine' sp_ofK ?_ ?h ?B ?side1 ?side2); (case h => walk_at "hpM"); (case B => walk_at "hpB"); intro xof Ho' hxo so' bo')
  | ((with_reducible refine' sp_ltextP ?_ ?h ?side1 ?side2); (case h => walk_at "hpH"))
  | (with_reducible refine g_par3 ?_)
  | (with_reducible refine g_par3E ?_)
  | fail)
section
variable {P : Program} {w : World} {K : Fg} {mg : Str → Option Value} {base : Heap} {f f1 f2 f3 f4 f5 : Addr} {fd : FuncData}
theorem ok_l_near_text (F : Fun K "_law_near_text" "_law_near_text" s_l_near_text f fd) (T : Blt mg) (D_l_draw : Df P w K mg base 1 "_law_draw" f1 ["_law_bag_here", "_law_many"] spDraw) (D_l_of : Df P w K mg base 2 "_law_of" f2 ["_law_bag_here", "_law_things"] spOf)
    (D_l_text : Df P w K mg base 1 "_law_text" f5 ["_law_one"] spLtext) : FnOk P w K mg base CX0 3 f fd ["_law_bag_here", "_law_one"] spNearT := by
  obtain ⟨_, G_l_draw, B_l_draw⟩ := D_l_draw.ok
  obtain ⟨_, G_l_of, B_l_of⟩ := D_l_of.ok
  obtain ⟨_, G_l_text, B_l_text⟩ := D_l_text.ok
  refine F.ok sc_l_near_text (fun vs H Q E h => ?_) (fun cdv A outer s H vs Q E hr h => ?_)
  · obtain ⟨b, c, t, n, d, rfl, _⟩ := h
    rfl
  · obtain ⟨b, c, t, n, d, rfl, B, ht, hs, k⟩ := h
    refine ⟨_, (pss_cons (ps_par3 (i := 2) (j := 3) (l := 4) rfl sc_l_near_text.nd rfl rfl rfl (by decide) (by decide) (by decide) rfl rfl rfl (pa_cons (pe_ix (ix_seqK K) (pv 1) pe_int (fun _ _ => rfl)) (pa_cons (pe_ix (ix_seqK K) (pv 1) pe_int (fun _ _ => rfl)) (pa_cons (pe_call G_l_text (hr.mono (by decide)) (by rfl) D_l_text.g D_l_text.kp B_l_text .nil pass0 (pa_cons (pv 1) pa_nil)) pa_nil))) rfl)
      (pss_cons (ps_set (i := 5) sc_l_near_text.nd rfl (.inl rfl) (pe_call G_l_draw (hr.mono (by decide)) (by rfl) D_l_draw.g D_l_draw.kp B_l_draw .nil pass0 (pa_cons (pv 0) (pa_cons pe_int pa_nil))))
      (pss_cons (ps_if (pt_cmpR op_eq (pv 5) pe_int (nomark _))
      (pss_one (ps_ret (pe_call G_l_of (hr.mono (by decide)) (by rfl) D_l_of.g D_l_of.kp B_l_of .nil pass0 (pa_cons (pv 0) (pa_cons (pe_lst (pa_cons (pe_op op_add_s (pv 4) pe_str) (pa_cons (pe_op op_add_s pe_str (pv 4)) (pa_cons (pe_op op_add_s (pv 4) pe_str) (pa_cons (pe_op op_add_s (pv 4) pe_str) (pa_cons (pe_op op_add_s pe_str (pv 4)) (pa_cons (pe_op op_add_s (pv 4) pe_str) pa_nil))))))) pa_nil))))) pss_nil)
      (pss_cons (ps_if (pt_cmpR op_eq (pv 5) pe_int (nomark _))
      (pss_one (ps_ret (pe_call G_l_of (hr.mono (by decide)) (by rfl) D_l_of.g D_l_of.kp B_l_of .nil pass0 (pa_cons (pv 0) (pa_cons (pe_lst (pa_cons (pe_op op_add_s pe_str (pe_callTy cg_str (by rfl) T.n_str (by decide +kernel) (pa_cons (pe_callB cg_abs (by rfl) T.n_abs (by decide +kernel) (pa_cons (pv 2) pa_nil)) pa_nil))) (pa_cons (pe_op op_add_s pe_str (pe_callTy cg_str (by rfl) T.n_str (by decide +kernel) (pa_cons (pe_callB cg_abs (by rfl) T.n_abs (by decide +kernel) (pa_cons (pv 2) pa_nil)) pa_nil))) (pa_cons pe_str (pa_cons pe_str (pa_cons (pe_op op_add_s pe_str (pe_callTy cg_str (by rfl) T.n_str (by decide +kernel) (pa_cons (pe_callB cg_abs (by rfl) T.n_abs (by decide +kernel) (pa_cons (pv 2) pa_nil)) pa_nil))) (pa_cons (pe_op op_add_s pe_str (pe_callTy cg_str (by rfl) T.n_str (by decide +kernel) (pa_cons (pe_callB cg_abs (by rfl) T.n_abs (by decide +kernel) (pa_cons (pv 2) pa_nil)) pa_nil))) pa_nil))))))) pa_nil))))) pss_nil)
      (pss_cons (ps_if (pt_cmpR op_lt (pv 5) pe_int (nomark _))
      (pss_cons (ps_set (i := 6) sc_l_near_text.nd rfl (.inl rfl) (pe_op op_add pe_int (pe_call G_l_draw (hr.mono (by decide)) (by rfl) D_l_draw.g D_l_draw.kp B_l_draw .nil pass0 (pa_cons (pv 0) (pa_cons pe_int pa_nil)))))
      (pss_one (ps_ret (pe_joinedN (.cons (pe_fmt (pe_op op_mulW (pv 2) (pv 6))) (.cons pe_str (.cons (pe_fmt (pe_op op_mulW (pv 3) (pv 6))) .nil))))))) pss_nil)
      (pss_cons (ps_if (pt_cmpR op_lt (pv 5) pe_int (nomark _))
      (pss_one (ps_ret (pe_call G_l_of (hr.mono (by decide)) (by rfl) D_l_of.g D_l_of.kp B_l_of .nil pass0 (pa_cons (pv 0) (pa_cons (pe_lst (pa_cons (pe_joinedN (.cons (pe_fmt (pv 2)) (.cons pe_str .nil))) (pa_cons (pe_joinedN (.cons (pe_fmt (pv 2)) (.cons pe_str .nil))) (pa_cons (pe_joinedN (.cons (pe_fmt (pv 2)) (.cons pe_str (.cons (pe_fmt (pv 3)) .nil)))) (pa_cons (pe_joinedN (.cons (pe_fmt (pv 2)) (.cons pe_str (.cons (pe_fmt (pv 3)) .nil)))) (pa_cons (pe_joinedN (.cons (pe_fmt (pv 2)) (.cons pe_str (.cons (pe_fmt (pv 3)) .nil)))) (pa_cons (pe_joinedN (.cons (pe_fmt (pv 2)) (.cons pe_str (.cons (pe_fmt (pv 3)) .nil)))) pa_nil))))))) pa_nil))))) pss_nil)
      (pss_cons (ps_if (pt_cmpR op_lt (pv 5) pe_int (nomark _))
      (pss_one (ps_ret (pe_call G_l_of (hr.mono (by decide)) (by rfl) D_l_of.g D_l_of.kp B_l_of .nil pass0 (pa_cons (pv 0) (pa_cons (pe_lst (pa_cons (pe_joinedN (.cons (pe_fmt (pv 2)) (.cons pe_str .nil))) (pa_cons (pe_joinedN (.cons (pe_fmt (pv 2)) (.cons pe_str .nil))) (pa_cons pe_str (pa_cons pe_str (pa_cons pe_str (pa_cons (pe_joinedN (.cons (pe_fmt (pv 2)) (.cons pe_str .nil))) (pa_cons (pe_joinedN (.cons pe_str (.cons (pe_fmt (pe_callB cg_abs (by rfl) T.n_abs (by decide +kernel) (pa_cons (pv 2) pa_nil))) .nil))) (pa_cons (pe_joinedN (.cons pe_str (.cons (pe_fmt (pe_callB cg_abs (by rfl) T.n_abs (by decide +kernel) (pa_cons (pv 2) pa_nil))) .nil))) (pa_cons pe_str (pa_cons pe_str pa_nil))))))))))) pa_nil))))) pss_nil)
      (pss_cons (ps_if (pt_cmpR op_lt (pv 5) pe_int (nomark _))
      (pss_cons (ps_set (i := 7) sc_l_near_text.nd rfl (.inl rfl) (pe_op op_add (pe_op op_pow pe_int pe_int) (pe_call G_l_draw (hr.mono (by decide)) (by rfl) D_l_draw.g D_l_draw.kp B_l_draw .nil pass0 (pa_cons (pv 0) (pa_cons pe_int pa_nil)))))
      (pss_one (ps_ret (pe_call G_l_of (hr.mono (by decide)) (by rfl) D_l_of.g D_l_of.kp B_l_of .nil pass0 (pa_cons (pv 0) (pa_cons (pe_lst (pa_cons (pe_callTy cg_str (by rfl) T.n_str (by decide +kernel) (pa_cons (pv 7) pa_nil)) (pa_cons (pe_callTy cg_str (by rfl) T.n_str (by decide +kernel) (pa_cons (pe_un un_neg (pv 7)) pa_nil)) (pa_cons (pe_joinedN (.cons pe_str (.cons (pe_fmt (pv 7)) .nil))) (pa_cons (pe_joinedN (.cons (pe_fmt (pv 7)) (.cons pe_str (.cons (pe_fmt (pe_op op_add (pv 7) pe_int)) .nil)))) (pa_cons (pe_joinedN (.cons pe_str (.cons (pe_fmt (pe_op op_sub (pe_op op_add (pv 7) pe_int) (pe_op op_mod (pe_callTy cg_int (by rfl) T.n_int (by decide +kernel) (pa_cons (pv 7) pa_nil)) pe_int))) .nil))) (pa_cons (pe_joinedN (.cons (pe_fmt (pv 7)) (.cons pe_str .nil))) pa_nil))))))) pa_nil)))))) pss_nil)
      (pss_one (ps_ret (pe_call G_l_of (hr.mono (by decide)) (by rfl) D_l_of.g D_l_of.kp B_l_of .nil pass0 (pa_cons (pv 0) (pa_cons (pe_lst (pa_cons (pe_joinedN (.cons (pe_fmt (pv 2)) (.cons pe_str (.cons (pe_fmt (pv 3)) (.cons pe_str (.cons (pe_fmt (pv 3)) .nil)))))) (pa_cons (pe_joinedN (.cons pe_str (.cons (pe_fmt (pv 2)) (.cons pe_str (.cons (pe_fmt (pv 3)) (.cons pe_str .nil)))))) (pa_cons (pe_joinedN (.cons (pe_fmt (pv 2)) (.cons pe_str (.cons (pe_fmt (pv 3)) .nil)))) (pa_cons (pe_joinedN (.cons (pe_fmt (pv 2)) (.cons pe_str (.cons (pe_fmt (pe_op op_add (pv 3) pe_int)) .nil)))) (pa_cons (pe_joinedN (.cons (pe_fmt (pv 2)) (.cons pe_str .nil))) pa_nil)))))) pa_nil))))))))))))), ?_⟩
    have h1 := hs.2.1
    have h2 := hs.2.2
    have h3 := hs.1.1
    dsimp only at h1 h2 h3
    have hb := hs.big
    have n64 : n.natAbs < 10 ^ 64 := by omega
    have d64 : d.natAbs < 10 ^ 64 := by omega
    have d641 : (d + 1).natAbs < 10 ^ 64 := by omega
    have e60 : (10 : Int) ^ Int.toNat 60 = 10 ^ 60 := rfl
    have more : ∀ i : Int, 0 ≤ i → i < 5 → (n * (2 + i)).natAbs < 10 ^ 64 ∧ (d * (2 + i)).natAbs < 10 ^ 64 := fun i i0 i1 => by
      rw [Int.natAbs_mul, Int.natAbs_mul]
      have a1 := Nat.mul_le_mul h1 (show (2 + i).natAbs ≤ 6 by omega)
      have a2 := Nat.mul_le_mul (show d.natAbs ≤ 12 by omega) (show (2 + i).natAbs ≤ 6 by omega)
      omega
    walk_at "gos"
    all_goals try (first
      | walk_at "side"
      | exact mulS (by omega) (by omega)
      | exact log_of (more _ (by assumption) (by assumption)).1
      | exact log_of (more _ (by assumption) (by assumption)).2
      | (have m1 := (more _ (by assumption) (by assumption)).1; have m2 := (more _ (by assumption) (by assumption)).2; walk_at "side"))
    · rename_i xo H1 hx s1 b1
      obtain ⟨x, rfl, hw⟩ := wr0 hb _ hx
      refine k x _ hw ?_ ?_
      · walk_at "hpSM"
      · walk_at "hpB"
    · rename_i xo H1 hx s1 b1
      obtain ⟨x, rfl, hw⟩ := wr1 n64 _ hx
      refine k x _ hw ?_ ?_
      · walk_at "hpSM"
      · walk_at "hpB"
    · rename_i i _ i0 i1 _ _
      have mm := more i i0 i1
      refine k _ _ ⟨wr2 h3 (by omega), by walk_at "side"⟩ ?_ ?_
      · walk_at "hpSM"
      · walk_at "hpB"
    · rename_i xo H1 hx s1 b1
      obtain ⟨x, rfl, hw⟩ := wr3 h3 n64 d64 _ hx
      refine k x _ hw ?_ ?_
      · walk_at "hpSM"
      · walk_at "hpB"
    · rename_i xo H1 hx s1 b1
      obtain ⟨x, rfl, hw⟩ := wr4 n64 _ hx
      refine k x _ hw ?_ ?_
      · walk_at "hpSM"
      · walk_at "hpB"
    · rename_i i H0 i0 i1 s0 b0 p hp xo H1 hx s1 b1
      rw [e60] at hx
      obtain ⟨x, rfl, hw⟩ := wr5 (g := 10 ^ 60 + i) (by omega) (by omega) _ hx
      refine k x _ hw ?_ ?_
      · walk_at "hpSM"
      · walk_at "hpB"
    · rename_i xo H1 hx s1 b1
      obtain ⟨x, rfl, hw⟩ := wr6 h3 (by omega) (by omega) _ hx
      refine k x _ hw ?_ ?_
      · walk_at "hpSM"
      · walk_at "hpB"
end
end Ko


namespace Ko
open PySem L2 PySem.Spec PyProof.Rows Xm
/-- a value that is no number -/
def BadV (H : Hp) (v : V) : Prop := ∃ d, Dq H v d ∧ exOk d ∧ exD d = none ∧ Dt.ok 2 d ∧ d.fits
theorem BadV.same {H H' : Hp} {v : V} (s : Same H H') (h : BadV H v) : BadV H' v := by
  obtain ⟨d, h, r⟩ := h
  exact ⟨d, h.same s, r⟩
def spNear : Sp := fun vs H Q _ => ∃ (b c t : Addr) (n d : Int), vs = [.ref b, .ref t] ∧ Bag H b c ∧ delH H b t = some (.tup [.int n, .int d]) ∧ Small (n, d) ∧ ∀ v H', BadV (delH H' b) v → Same (delH H b) (delH H' b) → Bag H' b c → Q v H'
section
variable {H : Hp} {Q : VK} {E : XK} {b c t : Addr} {n d : Int}
theorem sp_nearT (k : ∀ x H', Wr x → Same (delH H b) (delH H' b) → Bag H' b c → Q (.str x) H') (h : delH H b t = some (.tup [.int n, .int d])) (B : Bag H b c) (hs : Small (n, d)) : spNearT [.ref b, .ref t] H Q E := ⟨b, c, t, n, d, rfl, B, h, hs, k⟩
theorem sp_near (k : ∀ v H', BadV (delH H' b) v → Same (delH H b) (delH H' b) → Bag H' b c → Q v H') (h : delH H b t = some (.tup [.int n, .int d])) (B : Bag H b c) (hs : Small (n, d)) : spNear [.ref b, .ref t] H Q E := ⟨b, c, t, n, d, rfl, B, h, hs, k⟩
end

local macro_rules | `(tactic| walk_at "hpS") => `(tactic| with_reducible first
  | exact Same.refl _
  | assumption
  | (refine' Same.trans ?hq (same_new (by assumption)); (case hq => walk_at "hpS"))
  | (refine' Same.trans ?hq (by assumption); (case hq => walk_at "hpS"))
  | fail)
local macro_rules | `(tactic| walk_at "hpH") => `(tactic| with_reducible first
  | assumption
  | exact upd_same
  | (refine' same_at (same_new (by assumption)) ?hq; (case hq => walk_at "hpH"))
  | (refine' same_at (by assumption) ?hq; (case hq => walk_at "hpH"))
  | fail)
local macro_rules | `(tactic| walk_at "hpTo") => `(tactic| with_reducible first
  | assumption
  | (refine' sq_t (same_new (by assumption)) ?hq; (case hq => walk_at "hpTo"))
  | (refine' sq_t (by assumption) ?hq; (case hq => walk_at "hpTo"))
  | fail)
local macro_rules | `(tactic| walk_at "hpT") => `(tactic| with_reducible first
  | (refine' SqT.of ?hq; (case hq => walk_at "hpH"))
  | walk_at "hpTo"
  | fail)
local macro_rules | `(tactic| walk_at "hpLo") => `(tactic| with_reducible first
  | assumption
  | (refine' sq_l (same_new (by assumption)) ?hq; (case hq => walk_at "hpLo"))
  | (refine' sq_l (by assumption) ?hq; (case hq => walk_at "hpLo"))
  | fail)
local macro_rules | `(tactic| walk_at "hpL") => `(tactic| with_reducible first
  | (refine' SqL.of ?hq; (case hq => walk_at "hpH"))
  | walk_at "hpLo"
  | fail)
local macro_rules | `(tactic| walk_at "kit") => `(tactic| with_reducible first
  | exact kit_int_bool | exact kit_int_int | exact kit_int_tuple | exact kit_int_list | exact kit_int_str
  | exact kit_tuple_tuple | exact kit_tuple_int | exact kit_tuple_bool | exact kit_tuple_list | exact kit_tuple_str
  | exact kit_bool_bool | exact kit_bool_int | exact kit_bool_tuple | exact kit_bool_list | exact kit_bool_str
  | exact kit_str_str | exact kit_str_int | exact kit_str_bool | exact kit_str_tuple | exact kit_str_list
  | exact kit_NoneType_int | exact kit_NoneType_bool | exact kit_NoneType_tuple | exact kit_NoneType_list | exact kit_NoneType_str
  | exact kit_list_list | exact kit_list_tuple | exact kit_list_int | exact kit_list_bool | exact kit_list_str
  | fail)
local macro_rules | `(tactic| walk_at "call") => `(tactic| fail)
local macro_rules | `(tactic| walk_at "s0") => `(tactic| with_reducible first
  | refine g_seq ?_ | refine g_asg ?_ | refine g_name ?_ | refine g_ifS ?_ | refine g_ret ?_ | refine g_retN ?_ | refine g_next ?_
  | refine g_par ?_ | refine g_parE ?_ | refine g_drop ?_
  | refine g_c ?_ | refine g_op ?_ | refine g_un ?_ | refine g_cb ?_ | refine g_call ?_ | refine g_nil ?_ | refine g_cons ?_ | refine g_tup ?_ | refine g_lst ?_
  | refine g_test ?_ | refine g_B ?_ | refine g_blF ?_ | refine g_and ?_ | refine g_or ?_ | refine g_not ?_ | refine g_andV ?_ | refine g_orV ?_ | refine g_notV ?_ | refine g_if ?_
  | refine iteT ?_ | refine iteF ?_
  | refine g_chain ?_ | refine g_sl ?_ | refine g_noPart ?_ | refine g_part ?_ | refine g_partI ?_ | refine g_slS ?_ ?side | refine g_M1 ?_ | refine g_M1s ?_ | refine g_starts ?_ | refine g_bm ?_ | refine g_bm0 ?_ | refine g_tyS ?_
  | refine g_Fs ?_ | refine g_JsN ?_ | refine g_JsC ?_ | refine g_JsE ?_ ?side | refine g_fmt ?_ | refine g_fmtI ?_ ?side | refine g_fmtS ?_ ?side | refine g_iList ?_ | refine g_iTup ?_ | refine g_iStr ?_ | refine g_iStrE ?_ | refine g_iRng1 ?_ | refine g_iRng1E ?_ ?side1 ?side2 | refine g_yes ?_ | refine g_ckw ?_ | refine g_dget ?_ | refine g_dictZip ?_ | refine g_gCons ?_ | refine g_gNil ?_ | refine g_revL ?_ | refine g_for ?_ | refine g_lc ?_ | refine g_addS ?_ ?side | refine g_str ?_ ?side | refine g_lenS ?_ ?side
  | refine g_rI0 ?_ | refine g_rI ?_ ?side | refine g_rU ?_ | refine g_abs ?_ | refine g_int ?_ | refine g_intB ?_ | refine g_gcd ?_ | refine g_inS ?_ | refine g_isN0 ?_ | refine g_notN0 ?_
  | fail)
local macro_rules | `(tactic| walk_at "s1") => `(tactic| first
  | ((with_reducible refine' g_var ?h ?_); (case h => exact rfl))
  | ((with_reducible refine' g_new ?h ?_); (case h => exact (by simp only [List.length_cons, List.length_nil]; decide)); intro tnew htnew)
  | ((with_reducible refine' iteDT ?h ?_); (case h => first | exact rfl | assumption))
  | ((with_reducible refine' iteNT ?h ?_); (case h => first | exact rfl | assumption))
  | ((with_reducible refine' iteDF ?h ?_); (case h => first | assumption | (intro z; cases z)))
  | ((with_reducible refine' iteNF ?h ?_); (case h => first | assumption | (intro z; cases z)))
  | ((with_reducible refine' g_eq ?_ ?h); (case h => exact rfl))
  | ((with_reducible refine' g_ne ?_ ?h); (case h => exact rfl))
  | ((with_reducible refine' g_ixT ?_ ?h ?e); (case h => walk_at "hpT"); (case e => first | exact rfl | exact atI_0 | exact atI_1))
  | ((with_reducible refine' g_ixL ?_ ?h ?e); (case h => walk_at "hpL"); (case e => first | exact rfl | exact atI_0 | exact atI_1))
  | ((with_reducible refine' g_isi_int ?_ ?h); (case h => walk_at "kit"))
  | ((with_reducible refine' g_isi_str ?_ ?h); (case h => walk_at "kit"))
  | ((with_reducible refine' g_isi_bl ?_ ?h); (case h => walk_at "kit"))
  | ((with_reducible refine' g_isi_non ?_ ?h); (case h => walk_at "kit"))
  | ((with_reducible refine' g_isi_t ?_ ?t ?h); (case t => walk_at "hpT"); (case h => walk_at "kit"))
  | ((with_reducible refine' g_isi_l ?_ ?t ?h ?l); (case l => walk_at "hpH"); (case t => walk_at "hpL"); (case h => walk_at "kit"))
  | ((with_reducible refine' g_lenT ?_ ?h); (case h => walk_at "hpT"))
  | ((with_reducible refine' g_lenL ?_ ?h); (case h => walk_at "hpL"))
  | ((with_reducible refine' g_split ?_ ?h ?side); (case h => exact rfl); intro pnew hpnew)
  | ((with_reducible refine' g_slL ?h ?_); (case h => walk_at "hpL"); intro pnew hpnew)
  | ((with_reducible refine' g_iListE ?_ ?h); (case h => walk_at "hpL"))
  | ((with_reducible refine' g_iTupE ?_ ?h); (case h => walk_at "hpT"))
  | ((with_reducible refine' g_tyL ?_ ?h); (case h => walk_at "hpL"))
  | ((with_reducible refine' g_join ?_ ?h ?side); (case h => walk_at "hpL"))
  | ((with_reducible refine' g_append ?_ ?h ?side); (case h => walk_at "hpH"))
  | ((with_reducible refine' g_all ?_ ?h); (case h => walk_at "hpL"))
  | ((with_reducible refine' g_gTup ?_ ?h ?n); (case h => walk_at "hpT"); (case n => exact rfl))
  | ((with_reducible refine' g_revLE ?h ?_); (case h => walk_at "hpL"); intro pnew hpnew)
  | ((with_reducible refine' g_isN1 ?_ ?h); (case h => first | assumption | (intro z; cases z)))
  | ((with_reducible refine' g_notN1 ?_ ?h); (case h => first | assumption | (intro z; cases z)))
  | walk_at "call"
  | ((with_reducible refine' iteBT ?h ?_); (case h => first | assumption | exact rfl))
  | ((with_reducible refine' iteBF ?h ?_); (case h => first | assumption | exact rfl))
  | fail)
local macro_rules | `(tactic| walk_at "nrm") => `(tactic| simp only [Bool.not_true, Bool.not_false, decide_eq_true_eq, decide_true, decide_false, Bool.true_and, Bool.false_and, Bool.and_true, Bool.and_false, V.int.injEq, V.bl.injEq, V.str.injEq, List.length_cons, List.length_nil, Bool.not_eq_true', decide_eq_false_iff_not, Int.not_lt, Int.not_le, reduceCtorEq, not_false_eq_true, not_true_eq_false, Decidable.not_not] at *)
local macro_rules | `(tactic| walk_at "sp") => `(tactic| ((with_reducible refine ite2 (fun c => ?_) (fun c => ?_)) <;> (try simp only [decide_eq_true_eq, Bool.not_eq_true', decide_eq_false_iff_not, V.int.injEq, V.bl.injEq, V.str.injEq, Int.not_lt, Int.not_le, reduceCtorEq, Decidable.not_not, Bool.false_eq_true, Bool.true_eq_false] at c) <;> (try (exfalso; omega))))
local macro_rules | `(tactic| walk_at "s") => `(tactic| first | walk_at "s0" | walk_at "s1" | fail)
local macro_rules | `(tactic| walk_at "go") => `(tactic| (try dsimp only [cxK, cxK']); repeat' walk_at "s")
local macro_rules | `(tactic| walk_at "gos") => `(tactic| ((try dsimp only [cxK, cxK']); repeat' (first | walk_at "s" | walk_at "sp" | fail)))

local macro_rules | `(tactic| walk_at "hpNo") => `(tactic| with_reducible first
  | assumption
  | (refine' Nm.ofPr ?hq; (case hq => assumption))
  | (refine' Nm.same (same_new (by assumption)) ?hq; (case hq => walk_at "hpNo"))
  | (refine' Nm.same (by assumption) ?hq; (case hq => walk_at "hpNo"))
  | fail)
local macro_rules | `(tactic| walk_at "hpN") => `(tactic| with_reducible first
  | walk_at "hpNo"
  | (refine' Nm.of ?hq; (case hq => walk_at "hpH"))
  | fail)
local macro_rules | `(tactic| walk_at "hpPo") => `(tactic| with_reducible first
  | assumption
  | (refine' Pr.same (same_new (by assumption)) ?hq; (case hq => walk_at "hpPo"))
  | (refine' Pr.same (by assumption) ?hq; (case hq => walk_at "hpPo"))
  | fail)
local macro_rules | `(tactic| walk_at "hpP") => `(tactic| with_reducible first
  | walk_at "hpPo"
  | (refine' Pr.of ?hq; (case hq => walk_at "hpH"))
  | fail)
local macro_rules | `(tactic| walk_at "hpDo") => `(tactic| with_reducible first
  | assumption
  | exact Dq.int _ | exact Dq.bl _ | exact Dq.str _ | exact Dq.non
  | (refine' Dq.same (same_new (by assumption)) ?hq; (case hq => walk_at "hpDo"))
  | (refine' Dq.same (by assumption) ?hq; (case hq => walk_at "hpDo"))
  | fail)
local macro_rules | `(tactic| walk_at "hpD") => `(tactic| with_reducible first
  | walk_at "hpDo"
  | fail)

local macro_rules | `(tactic| walk_at "hpM") => `(tactic| with_reducible first
  | assumption
  | (refine' mk_new ?hn ?hB; (case hn => assumption); (case hB => walk_at "hpB"))
  | (refine' mk_tup ?hn ?hB; (case hn => assumption); (case hB => walk_at "hpB"))
  | (refine' same_at (mk_upd (by assumption)) ?hq; (case hq => walk_at "hpM"))
  | (refine' same_at (show Same (delH _ _) (delH _ _) by assumption) ?hq; (case hq => walk_at "hpM"))
  | (refine' same_at (mk_mono (by assumption)) ?hq; (case hq => walk_at "hpM"))
  | fail)
local macro_rules | `(tactic| walk_at "hpSM") => `(tactic| with_reducible first
  | exact Same.refl _
  | assumption
  | (refine' Same.trans ?hq (mk_upd (by assumption)); (case hq => walk_at "hpSM"))
  | (refine' Same.trans ?hq (show Same (delH _ _) (delH _ _) by assumption); (case hq => walk_at "hpSM"))
  | (refine' Same.trans ?hq (mk_mono (by assumption)); (case hq => walk_at "hpSM"))
  | fail)
local macro_rules | `(tactic| walk_at "hpB") => `(tactic| with_reducible first
  | assumption
  | (refine' bag_upd ?hq (by assumption); (case hq => walk_at "hpB"))
  | (refine' bag_same ?hq (by assumption); (case hq => walk_at "hpB"))
  | fail)
local macro_rules | `(tactic| walk_at "hpHo") => `(tactic| with_reducible first
  | assumption
  | exact upd_same
  | (refine' same_at (same_new (by assumption)) ?hq; (case hq => walk_at "hpHo"))
  | (refine' same_at (by assumption) ?hq; (case hq => walk_at "hpHo"))
  | fail)
local macro_rules | `(tactic| walk_at "hpH") => `(tactic| with_reducible first
  | walk_at "hpHo"
  | (refine' same_at mk_same ?hq; (case hq => walk_at "hpM"))
  | fail)
local macro_rules | `(tactic| walk_at "hpNo") => `(tactic| with_reducible first
  | assumption
  | (refine' Nm.ofPr ?hq; (case hq => assumption))
  | (refine' Nm.same (same_new (by assumption)) ?hq; (case hq => walk_at "hpNo"))
  | (refine' Nm.same (by assumption) ?hq; (case hq => walk_at "hpNo"))
  | fail)
local macro_rules | `(tactic| walk_at "hpNMo") => `(tactic| with_reducible first
  | assumption
  | (refine' Nm.ofPr ?hq; (case hq => assumption))
  | (refine' Nm.same (mk_upd (by assumption)) ?hq; (case hq => walk_at "hpNMo"))
  | (refine' Nm.same (show Same (delH _ _) (delH _ _) by assumption) ?hq; (case hq => walk_at "hpNMo"))
  | (refine' Nm.same (mk_mono (by assumption)) ?hq; (case hq => walk_at "hpNMo"))
  | fail)
local macro_rules | `(tactic| walk_at "hpNM") => `(tactic| with_reducible first
  | walk_at "hpNMo"
  | (refine' Nm.of ?hq; (case hq => walk_at "hpM"))
  | fail)
local macro_rules | `(tactic| walk_at "hpN") => `(tactic| with_reducible first
  | walk_at "hpNo"
  | (refine' Nm.same mk_same ?hq; (case hq => walk_at "hpNMo"))
  | (refine' Nm.of ?hq; (case hq => walk_at "hpH"))
  | fail)
local macro_rules | `(tactic| walk_at "hpPo") => `(tactic| with_reducible first
  | assumption
  | (refine' Pr.same (same_new (by assumption)) ?hq; (case hq => walk_at "hpPo"))
  | (refine' Pr.same (by assumption) ?hq; (case hq => walk_at "hpPo"))
  | fail)
local macro_rules | `(tactic| walk_at "hpPMo") => `(tactic| with_reducible first
  | assumption
  | (refine' Pr.same (mk_upd (by assumption)) ?hq; (case hq => walk_at "hpPMo"))
  | (refine' Pr.same (show Same (delH _ _) (delH _ _) by assumption) ?hq; (case hq => walk_at "hpPMo"))
  | (refine' Pr.same (mk_mono (by assumption)) ?hq; (case hq => walk_at "hpPMo"))
  | fail)
local macro_rules | `(tactic| walk_at "hpPM") => `(tactic| with_reducible first
  | walk_at "hpPMo"
  | (refine' Pr.of ?hq; (case hq => walk_at "hpM"))
  | fail)
local macro_rules | `(tactic| walk_at "hpP") => `(tactic| with_reducible first
  | walk_at "hpPo"
  | (refine' Pr.same mk_same ?hq; (case hq => walk_at "hpPMo"))
  | (refine' Pr.of ?hq; (case hq => walk_at "hpH"))
  | fail)
local macro_rules | `(tactic| walk_at "hpDo") => `(tactic| with_reducible first
  | assumption
  | exact Dq.int _ | exact Dq.bl _ | exact Dq.str _ | exact Dq.non
  | (refine' Dq.same (same_new (by assumption)) ?hq; (case hq => walk_at "hpDo"))
  | (refine' Dq.same (by assumption) ?hq; (case hq => walk_at "hpDo"))
  | fail)
local macro_rules | `(tactic| walk_at "hpDMo") => `(tactic| with_reducible first
  | assumption
  | exact Dq.int _ | exact Dq.bl _ | exact Dq.str _ | exact Dq.non
  | (refine' Dq.same (mk_upd (by assumption)) ?hq; (case hq => walk_at "hpDMo"))
  | (refine' Dq.same (show Same (delH _ _) (delH _ _) by assumption) ?hq; (case hq => walk_at "hpDMo"))
  | (refine' Dq.same (mk_mono (by assumption)) ?hq; (case hq => walk_at "hpDMo"))
  | fail)
local macro_rules | `(tactic| walk_at "hpDM") => `(tactic| with_reducible first
  | walk_at "hpDMo"
  | fail)
local macro_rules | `(tactic| walk_at "hpD") => `(tactic| with_reducible first
  | walk_at "hpDo"
  | (refine' Dq.same mk_same ?hq; (case hq => walk_at "hpDMo"))
  | fail)
local macro_rules | `(tactic| walk_at "call") => `(tactic| first
  | ((with_reducible refine' sp_draw ?_ ?h ?side1 ?side2); (case h => walk_at "hpB"); intro idraw Hd' hi0 hi1 sd' bd')
  | fail)

local macro_rules | `(tactic| walk_at "call") => `(tactic| first
  | ((with_reducible refine' sp_draw ?_ ?h ?side1 ?side2); (case h => walk_at "hpB"); intro idraw Hd' hi0 hi1 sd' bd')
  | ((with_reducible refine' sp_ofK ?_ ?h ?B ?side1 ?side2); (case h => walk_at "hpM"); (case B => walk_at "hpB"); intro xof Ho' hxo so' bo')
  | ((with_reducible refine' sp_nearT ?_ ?h ?B ?hs); (case h => walk_at "hpM"); (case B => walk_at "hpB"); (case hs => assumption); intro xnt Hnt hwr snt bnt)
  | (with_reducible refine g_par3 ?_)
  | (with_reducible refine g_par3E ?_)
  | fail)
local macro_rules | `(tactic| walk_at "dq") => `(tactic| first
  | exact Dq.int _
  | exact Dq.bl _
  | exact Dq.str _
  | exact Dq.non
  | exact DqAll.nil
  | (refine' DqAll.cons ?h1 ?h2; (case h1 => walk_at "dq"); (case h2 => walk_at "dq"))
  | (refine' Dq.tup ?h1 ?h2; (case h1 => walk_at "hpM"); (case h2 => walk_at "dq"))
  | (refine' Dq.lst ?h1 ?h2; (case h1 => walk_at "hpM"); (case h2 => walk_at "dq"))
  | fail)
section
variable {P : Program} {w : World} {K : Fg} {mg : Str → Option Value} {base : Heap} {f f1 f2 f3 f4 f5 : Addr} {fd : FuncData}
theorem ok_l_near (F : Fun K "_law_near" "_law_near" s_l_near f fd) (T : Blt mg) (D_l_draw : Df P w K mg base 1 "_law_draw" f1 ["_law_bag_here", "_law_many"] spDraw) (D_l_of : Df P w K mg base 2 "_law_of" f2 ["_law_bag_here", "_law_things"] spOf)
    (D_l_near_text : Df P w K mg base 3 "_law_near_text" f5 ["_law_bag_here", "_law_one"] spNearT) : FnOk P w K mg base CX0 4 f fd ["_law_bag_here", "_law_one"] spNear := by
  obtain ⟨_, G_l_draw, B_l_draw⟩ := D_l_draw.ok
  obtain ⟨_, G_l_of, B_l_of⟩ := D_l_of.ok
  obtain ⟨_, G_l_near_text, B_l_near_text⟩ := D_l_near_text.ok
  refine F.ok sc_l_near (fun vs H Q E h => ?_) (fun cdv A outer s H vs Q E hr h => ?_)
  · obtain ⟨b, c, t, n, d, rfl, _⟩ := h
    rfl
  · obtain ⟨b, c, t, n, d, rfl, B, ht, hs, k⟩ := h
    refine ⟨_, (pss_cons (ps_par3 (i := 2) (j := 3) (l := 4) rfl sc_l_near.nd rfl rfl rfl (by decide) (by decide) (by decide) rfl rfl rfl (pa_cons (pe_ix (ix_seqK K) (pv 1) pe_int (fun _ _ => rfl)) (pa_cons (pe_ix (ix_seqK K) (pv 1) pe_int (fun _ _ => rfl)) (pa_cons (pe_call G_l_draw (hr.mono (by decide)) (by rfl) D_l_draw.g D_l_draw.kp B_l_draw .nil pass0 (pa_cons (pv 0) (pa_cons pe_int pa_nil))) pa_nil))) rfl)
      (pss_cons (ps_if (pt_cmpR op_lt (pv 4) pe_int (nomark _))
      (pss_one (ps_ret (pe_call G_l_near_text (hr.mono (by decide)) (by rfl) D_l_near_text.g D_l_near_text.kp B_l_near_text .nil pass0 (pa_cons (pv 0) (pa_cons (pv 1) pa_nil))))) pss_nil)
      (pss_cons (ps_if (pt_cmpR op_eq (pv 4) pe_int (nomark _))
      (pss_one (ps_ret (pe_call G_l_of (hr.mono (by decide)) (by rfl) D_l_of.g D_l_of.kp B_l_of .nil pass0 (pa_cons (pv 0) (pa_cons (pe_lst (pa_cons pe_bl (pa_cons pe_bl (pa_cons pe_non (pa_cons (pe_tup pa_nil) (pa_cons (pe_lst pa_nil) (pa_cons (pe_lst (pa_cons (pv 2) pa_nil)) (pa_cons pe_str pa_nil)))))))) pa_nil))))) pss_nil)
      (pss_cons (ps_if (pt_cmpR op_eq (pv 4) pe_int (nomark _))
      (pss_one (ps_ret (pe_call G_l_of (hr.mono (by decide)) (by rfl) D_l_of.g D_l_of.kp B_l_of .nil pass0 (pa_cons (pv 0) (pa_cons (pe_lst (pa_cons (pe_tup (pa_cons (pv 2) (pa_cons pe_int pa_nil))) (pa_cons (pe_tup (pa_cons pe_int (pa_cons pe_int pa_nil))) (pa_cons (pe_tup (pa_cons (pv 2) pa_nil)) (pa_cons (pe_tup (pa_cons (pv 2) (pa_cons (pv 3) (pa_cons pe_int pa_nil)))) (pa_cons (pe_tup (pa_cons (pv 2) (pa_cons (pv 3) (pa_cons (pv 3) pa_nil)))) pa_nil)))))) pa_nil))))) pss_nil)
      (pss_cons (ps_if (pt_cmpR op_eq (pv 4) pe_int (nomark _))
      (pss_one (ps_ret (pe_call G_l_of (hr.mono (by decide)) (by rfl) D_l_of.g D_l_of.kp B_l_of .nil pass0 (pa_cons (pv 0) (pa_cons (pe_lst (pa_cons (pe_lst (pa_cons (pv 2) (pa_cons (pv 3) pa_nil))) (pa_cons (pe_lst (pa_cons (pv 1) pa_nil)) (pa_cons (pe_tup (pa_cons (pv 1) (pa_cons (pv 3) pa_nil))) (pa_cons (pe_tup (pa_cons (pv 2) (pa_cons (pv 1) pa_nil))) (pa_cons (pe_tup (pa_cons (pe_tup (pa_cons (pv 2) (pa_cons pe_int pa_nil))) (pa_cons (pe_tup (pa_cons (pv 3) (pa_cons pe_int pa_nil))) pa_nil))) pa_nil)))))) pa_nil))))) pss_nil)
      (pss_one (ps_ret (pe_call G_l_of (hr.mono (by decide)) (by rfl) D_l_of.g D_l_of.kp B_l_of .nil pass0 (pa_cons (pv 0) (pa_cons (pe_lst (pa_cons (pe_tup (pa_cons pe_bl (pa_cons (pe_op op_add pe_int (pv 3)) pa_nil))) (pa_cons (pe_tup (pa_cons (pv 2) (pa_cons pe_bl pa_nil))) (pa_cons (pe_tup (pa_cons pe_bl (pa_cons (pv 3) pa_nil))) (pa_cons (pe_tup (pa_cons (pe_callTy cg_str (by rfl) T.n_str (by decide +kernel) (pa_cons (pv 2) pa_nil)) (pa_cons (pv 3) pa_nil))) (pa_cons (pe_tup (pa_cons (pv 2) (pa_cons (pe_callTy cg_str (by rfl) T.n_str (by decide +kernel) (pa_cons (pv 3) pa_nil)) pa_nil))) (pa_cons (pe_tup (pa_cons pe_non (pa_cons pe_int pa_nil))) (pa_cons (pe_tup (pa_cons (pv 2) (pa_cons pe_non pa_nil))) pa_nil)))))))) pa_nil)))))))))), ?_⟩
    have h1 := hs.2.1
    have h2 := hs.2.2
    have h3 := hs.1.1
    dsimp only at h1 h2 h3
    have ed : d.natAbs < 2 ^ 8900 := up8900 (by omega)
    have ez : Int.natAbs 0 < 2 ^ 8900 := up8900 (by decide)
    have ew : exD (.str "") = none := by
      show readL (TL.tl "") = none
      rw [tlc14]
      decide
    have el : exOk (.str "") := by
      show ("" : Str).length ≤ 10000
      decide +kernel
    walk_at "gos"
    all_goals try (first
      | exact Nat.le_of_ble_eq_true rfl
      | (show (0 : Int) < _; decide)
      | (show _ < (1073741824 : Int); decide)
      | exact log_of (by omega))
    · rename_i x H1 hw s1 b1
      refine k _ _ ⟨.str x, .str x, hw.2, hw.1, trivial, trivial⟩ ?_ ?_
      · walk_at "hpSM"
      · walk_at "hpB"
    · rename_i xo H1 hx s1 b1
      have bad : BadV (delH H1 b) xo := by
        simp only [List.mem_cons, List.not_mem_nil, or_false] at hx
        rcases hx with rfl | rfl | rfl | rfl | rfl | rfl | rfl
        all_goals exact ⟨_, by walk_at "dq", by first | trivial | assumption, by first | rfl | assumption, by simp [Dt.ok], by first | trivial | assumption⟩
      refine k xo _ bad ?_ ?_
      · walk_at "hpSM"
      · walk_at "hpB"
    · rename_i xo H1 hx s1 b1
      have bad : BadV (delH H1 b) xo := by
        simp only [List.mem_cons, List.not_mem_nil, or_false] at hx
        rcases hx with rfl | rfl | rfl | rfl | rfl
        all_goals exact ⟨_, by walk_at "dq", by first | trivial | assumption, by first | rfl | assumption, by simp [Dt.ok], by first | trivial | assumption⟩
      refine k xo _ bad ?_ ?_
      · walk_at "hpSM"
      · walk_at "hpB"
    · rename_i xo H1 hx s1 b1
      have bad : BadV (delH H1 b) xo := by
        simp only [List.mem_cons, List.not_mem_nil, or_false] at hx
        rcases hx with rfl | rfl | rfl | rfl | rfl
        all_goals exact ⟨_, by walk_at "dq", by first | trivial | assumption, by first | rfl | assumption, by simp [Dt.ok], by first | trivial | assumption⟩
      refine k xo _ bad ?_ ?_
      · walk_at "hpSM"
      · walk_at "hpB"
    · rename_i xo H1 hx s1 b1
      have bad : BadV (delH H1 b) xo := by
        simp only [List.mem_cons, List.not_mem_nil, or_false] at hx
        rcases hx with rfl | rfl | rfl | rfl | rfl | rfl | rfl
        all_goals exact ⟨_, by walk_at "dq", by first | trivial | assumption, by first | rfl | assumption, by simp [Dt.ok], by first | trivial | assumption⟩
      refine k xo _ bad ?_ ?_
      · walk_at "hpSM"
      · walk_at "hpB"
end
end Ko


namespace Ko
open PySem L2 PySem.Spec PyProof.Rows Xm
/-- isinstance of the error that the suite holds -/
def rIsE (K : Fg) (a : Addr) (cls : Value) (d : Option Addr) : List V → Hp → VK → Prop := fun xs H Q => ∃ (C : Addr) (c : V) (cv : Value) (b : Bool), xs = [.ref a, c] ∧ cls = .ref C ∧ (∀ dx, d = some dx → ∃ fs, H dx = some (exd dx fs)) ∧ ExcC K C ∧ ClsV c cv ∧ PySem.W.kitOne K (.ref C) cv = some b ∧ Q (.bl b) H
theorem call_isE {X : Cx} {a : Addr} {oe : Obj} {cls : Value} {d : Option Addr} (hz : Zc cls d oe) (hf : ∃ vs, oe.data = .fields vs) (hp : (a, oe) ∈ X.pn) : CallR X (.builtin "isinstance") (rIsE X.K a cls d) := by
  intro pins s σ H xs us Q I r h
  obtain ⟨C, c, cv, b, rfl, rfl, hd, T, k, kt, q⟩ := h
  exact call_isPin (p := (a, oe)) hp pins s σ H _ us Q I r ⟨C, d, c, cv, b, rfl, hz, hf, hd, T, k, kt, q⟩
theorem Bn.caught {P : Program} {w : World} {K : Fg} {mg : Str → Option Value} {base : Heap} {R C : Addr} (Z : Bn P w K mg base R C) : PySem.W.exmOne K (.ref C) (.ref R) = some true := by
  obtain ⟨cd, h1, h2, h3, h4⟩ := Z.e.cls
  refine PySem.W.exm_ref Z.r.sB Z.r.dR Z.r.tR ?_
  show PySem.W.mroIn K C _ = _
  unfold PySem.W.mroIn
  rw [h1, Option.bind_some, h2]
  simp
def spRefused : Sp := fun vs H Q _ => ∃ v, vs = [v] ∧ BadV H v ∧ ∀ l H', Same H H' → H' l = some (.lst [v]) → Q (.ref l) H'
section
variable {P : Program} {w : World} {K : Fg} {mg : Str → Option Value} {base : Heap} {R C f f1 : Addr} {fd : FuncData}
theorem ok_l_refused (F : Fun K "_law_refused" "_law_refused" s_l_refused f fd) (T : Blt mg) (Z : Bn P w K mg base R C) (g1 : mg "exact" = some (.ref f1)) (k1 : PySem.W.keepIn K (.ref f1) = true)
    (D1 : ∃ fd, FnOk P w K mg base (L2.CX P w) 3 f1 fd ["value"] (spExactX C) ∧ Binds K fd ["value"] []) : FnOk P w K mg base CX0 4 f fd ["_law_thing"] spRefused := by
  obtain ⟨fd1, G1, B1⟩ := D1
  refine F.ok sc_l_refused (fun vs H Q E h => ?_) (fun cdv A outer s H vs Q E hr h => ?_)
  · obtain ⟨v, rfl, _⟩ := h
    rfl
  · obtain ⟨v, rfl, hb, k⟩ := h
    have hr1 := hr.mono (show 3 ≤ 3 by decide)
    refine ⟨_, pss_cons (ps_try_as (i := 1) (tb := fun W => tDrop (tCallS (spExactX C) (WE W) (tCons (tVar 0) tNil)))
      (ts := fun a cls d => tRet (tIf (tAnd (tB (tCB (rIsE K a cls d) (tCons (tVar 1) (tCons (tC (.ref C)) tNil)))) (tB (tCB (rIsE K a cls d) (tCons (tVar 1) (tCons (tC (.ty "ValueError")) tNil))))) (tLst (tCons (tXe a cls d C "value" (tVar 1)) tNil)) (tLst tNil)))
      (Wout := fun _ _ _ _ => False) rfl rfl sc_l_refused.nd rfl rfl ⟨rfl, by decide, Or.inl Z.r.g⟩ takes0
      (fun W pn xe tk _ => pss_one (ps_expr (by exact pe_callS G1 hr1 rfl g1 k1 B1 (fun σ => passAt tk σ) (pa_cons (pv 0) pa_nil))))
      (fun a oe cls d pn hz hf => pss_one (ps_ret (pe_ifExp (PW.pt (pw_and (pt_val (pe_callB (call_isE hz hf List.mem_cons_self) (by rfl) T.n_isinstance (by decide +kernel) (pa_cons (pv 1) (pa_cons (pe_glob (v := .ref _) (by rfl) Z.e.g rfl) pa_nil))))
        (pw_and1 (pt_val (pe_callB (call_isE hz hf List.mem_cons_self) (by rfl) T.n_isinstance (by decide +kernel) (pa_cons (pv 1) (pa_cons (pe_bltn (v := .ty "ValueError") (by rfl) T.n_ValueError (by decide +kernel) rfl) pa_nil)))))))
        (pe_lst (pa_cons (pe_xe Z.e.xf (Z.e.no _ (by simp)) hz hf (pv 1)) pa_nil)) (pe_lst pa_nil)))))
      (pss_one (ps_ret (pe_lst pa_nil))), ?_⟩
    obtain ⟨d, hd, ho, he, _⟩ := hb
    refine ⟨_, rfl, v, d, rfl, hd, ho, he, fun dx H1 s1 hx => ?_⟩
    refine ⟨true, Z.caught, fun _ a ha => ?_, fun z => by cases z⟩
    have hdx : ∀ dy, some dx = some dy → ∃ fs, H1 dy = some (exd dy fs) := fun dy z => by
      cases z
      exact ⟨_, hx⟩
    refine ⟨_, rfl, C, _, _, true, rfl, rfl, hdx, Z.e.xc Z.r, .own C, Ecl.kit_same C, _, rfl, ?_⟩
    refine iteT ⟨_, rfl, C, _, _, true, rfl, rfl, hdx, Z.e.xc Z.r, .ty _, Z.e.kit_VE, _, rfl, ?_⟩
    refine iteT ⟨_, rfl, rfl, rfl, dx, _, v, rfl, hx, by simp, ?_⟩
    refine ⟨by show 1 ≤ sizeLine; rw [sizeLine_eq]; decide, fun p hp => ?_⟩
    exact k p _ (s1.trans (same_new hp)) upd_same
end
end Ko


namespace Ko
open PySem L2 PySem.Spec PyProof.Rows Xm
def spStep : Sp := fun vs H Q _ => ∃ (b c t u : Addr) (w n d m e : Int), vs = [.ref b, .int w, .ref t, .ref u] ∧ Bag H b c ∧ delH H b t = some (.tup [.int n, .int d]) ∧ delH H b u = some (.tup [.int m, .int e]) ∧ Big (n, d) ∧ Big (m, e) ∧ 0 ≤ w ∧ w < 4 ∧ (w = 3 → m ≠ 0) ∧
  ∀ l t1 t2 x y H', delH H' b l = some (.lst [.ref t1, .ref t2]) → delH H' b t1 = some (.tup [.int x, .int y]) → delH H' b t2 = some (.tup [.int x, .int y]) → Lo (x, y) → Same (delH H b) (delH H' b) → Bag H' b c → Q (.ref l) H'
section
variable {H : Hp} {Q : VK} {E : XK} {x y : V} {p q : Pq} {t u : Addr} {n d m e : Int}
theorem sp_opK {op : Pq → Pq → Pq} (k : Ret H Q (op p q)) (hx : Nm H x p) (hy : Nm H y q) (lp : Lo p) (lq : Lo q) (sp : Sz 4400 p) (sq : Sz 4400 q) : spOp op [x, y] H Q E := ⟨x, y, p, q, rfl, hx, hy, lp, lq, sp, sq, k⟩
theorem sp_overK (k : Ret H Q (dv p q)) (hx : Nm H x p) (hy : Nm H y q) (lp : Lo p) (lq : Lo q) (h0 : q.1 ≠ 0) (sp : Sz 4400 p) (sq : Sz 4400 q) : spOver [x, y] H Q E := ⟨x, y, p, q, rfl, hx, hy, lp, lq, h0, sp, sq, k⟩
theorem sp_lopK {op : Pq → Pq → Pq} (k : Ret H Q (op (n, d) (m, e))) (h : H t = some (.tup [.int n, .int d])) (h' : H u = some (.tup [.int m, .int e])) (h0 : 0 < d) (h1 : 0 < e) (sp : Sz 4400 (n, d)) (sq : Sz 4400 (m, e)) : spLop op [.ref t, .ref u] H Q E := ⟨t, u, (n, d), (m, e), rfl, h, h', h0, h1, sp, sq, k⟩
end
theorem Big.sz {q : Pq} (h : Big q) : Sz 4400 q :=
  ⟨Nat.lt_of_lt_of_le h.2.1 (Nat.le_trans (show 10 ^ 60 ≤ 2 ^ 200 by decide) (Nat.pow_le_pow_right (by decide) (by decide))), Nat.lt_of_lt_of_le h.2.2 (Nat.le_trans (show 10 ^ 60 ≤ 2 ^ 200 by decide) (Nat.pow_le_pow_right (by decide) (by decide)))⟩

local macro_rules | `(tactic| walk_at "hpS") => `(tactic| with_reducible first
  | exact Same.refl _
  | assumption
  | (refine' Same.trans ?hq (same_new (by assumption)); (case hq => walk_at "hpS"))
  | (refine' Same.trans ?hq (by assumption); (case hq => walk_at "hpS"))
  | fail)
local macro_rules | `(tactic| walk_at "hpH") => `(tactic| with_reducible first
  | assumption
  | exact upd_same
  | (refine' same_at (same_new (by assumption)) ?hq; (case hq => walk_at "hpH"))
  | (refine' same_at (by assumption) ?hq; (case hq => walk_at "hpH"))
  | fail)
local macro_rules | `(tactic| walk_at "hpTo") => `(tactic| with_reducible first
  | assumption
  | (refine' sq_t (same_new (by assumption)) ?hq; (case hq => walk_at "hpTo"))
  | (refine' sq_t (by assumption) ?hq; (case hq => walk_at "hpTo"))
  | fail)
local macro_rules | `(tactic| walk_at "hpT") => `(tactic| with_reducible first
  | (refine' SqT.of ?hq; (case hq => walk_at "hpH"))
  | walk_at "hpTo"
  | fail)
local macro_rules | `(tactic| walk_at "hpLo") => `(tactic| with_reducible first
  | assumption
  | (refine' sq_l (same_new (by assumption)) ?hq; (case hq => walk_at "hpLo"))
  | (refine' sq_l (by assumption) ?hq; (case hq => walk_at "hpLo"))
  | fail)
local macro_rules | `(tactic| walk_at "hpL") => `(tactic| with_reducible first
  | (refine' SqL.of ?hq; (case hq => walk_at "hpH"))
  | walk_at "hpLo"
  | fail)
local macro_rules | `(tactic| walk_at "kit") => `(tactic| with_reducible first
  | exact kit_int_bool | exact kit_int_int | exact kit_int_tuple | exact kit_int_list | exact kit_int_str
  | exact kit_tuple_tuple | exact kit_tuple_int | exact kit_tuple_bool | exact kit_tuple_list | exact kit_tuple_str
  | exact kit_bool_bool | exact kit_bool_int | exact kit_bool_tuple | exact kit_bool_list | exact kit_bool_str
  | exact kit_str_str | exact kit_str_int | exact kit_str_bool | exact kit_str_tuple | exact kit_str_list
  | exact kit_NoneType_int | exact kit_NoneType_bool | exact kit_NoneType_tuple | exact kit_NoneType_list | exact kit_NoneType_str
  | exact kit_list_list | exact kit_list_tuple | exact kit_list_int | exact kit_list_bool | exact kit_list_str
  | fail)
local macro_rules | `(tactic| walk_at "call") => `(tactic| fail)
local macro_rules | `(tactic| walk_at "s0") => `(tactic| with_reducible first
  | refine g_seq ?_ | refine g_asg ?_ | refine g_name ?_ | refine g_ifS ?_ | refine g_ret ?_ | refine g_retN ?_ | refine g_next ?_
  | refine g_par ?_ | refine g_parE ?_ | refine g_drop ?_
  | refine g_c ?_ | refine g_op ?_ | refine g_un ?_ | refine g_cb ?_ | refine g_call ?_ | refine g_nil ?_ | refine g_cons ?_ | refine g_tup ?_ | refine g_lst ?_
  | refine g_test ?_ | refine g_B ?_ | refine g_blF ?_ | refine g_and ?_ | refine g_or ?_ | refine g_not ?_ | refine g_andV ?_ | refine g_orV ?_ | refine g_notV ?_ | refine g_if ?_
  | refine iteT ?_ | refine iteF ?_
  | refine g_chain ?_ | refine g_sl ?_ | refine g_noPart ?_ | refine g_part ?_ | refine g_partI ?_ | refine g_slS ?_ ?side | refine g_M1 ?_ | refine g_M1s ?_ | refine g_starts ?_ | refine g_bm ?_ | refine g_bm0 ?_ | refine g_tyS ?_
  | refine g_Fs ?_ | refine g_JsN ?_ | refine g_JsC ?_ | refine g_JsE ?_ ?side | refine g_fmt ?_ | refine g_fmtI ?_ ?side | refine g_fmtS ?_ ?side | refine g_iList ?_ | refine g_iTup ?_ | refine g_iStr ?_ | refine g_iStrE ?_ | refine g_iRng1 ?_ | refine g_iRng1E ?_ ?side1 ?side2 | refine g_yes ?_ | refine g_ckw ?_ | refine g_dget ?_ | refine g_dictZip ?_ | refine g_gCons ?_ | refine g_gNil ?_ | refine g_revL ?_ | refine g_for ?_ | refine g_lc ?_ | refine g_addS ?_ ?side | refine g_str ?_ ?side | refine g_lenS ?_ ?side
  | refine g_rI0 ?_ | refine g_rI ?_ ?side | refine g_rU ?_ | refine g_abs ?_ | refine g_int ?_ | refine g_intB ?_ | refine g_gcd ?_ | refine g_inS ?_ | refine g_isN0 ?_ | refine g_notN0 ?_
  | fail)
local macro_rules | `(tactic| walk_at "s1") => `(tactic| first
  | ((with_reducible refine' g_var ?h ?_); (case h => exact rfl))
  | ((with_reducible refine' g_new ?h ?_); (case h => exact (by simp only [List.length_cons, List.length_nil]; decide)); intro tnew htnew)
  | ((with_reducible refine' iteDT ?h ?_); (case h => first | exact rfl | assumption))
  | ((with_reducible refine' iteNT ?h ?_); (case h => first | exact rfl | assumption))
  | ((with_reducible refine' iteDF ?h ?_); (case h => first | assumption | (intro z; cases z)))
  | ((with_reducible refine' iteNF ?h ?_); (case h => first | assumption | (intro z; cases z)))
  | ((with_reducible refine' g_eq ?_ ?h); (case h => exact rfl))
  | ((with_reducible refine' g_ne ?_ ?h); (case h => exact rfl))
  | ((with_reducible refine' g_ixT ?_ ?h ?e); (case h => walk_at "hpT"); (case e => first | exact rfl | exact atI_0 | exact atI_1))
  | ((with_reducible refine' g_ixL ?_ ?h ?e); (case h => walk_at "hpL"); (case e => first | exact rfl | exact atI_0 | exact atI_1))
  | ((with_reducible refine' g_isi_int ?_ ?h); (case h => walk_at "kit"))
  | ((with_reducible refine' g_isi_str ?_ ?h); (case h => walk_at "kit"))
  | ((with_reducible refine' g_isi_bl ?_ ?h); (case h => walk_at "kit"))
  | ((with_reducible refine' g_isi_non ?_ ?h); (case h => walk_at "kit"))
  | ((with_reducible refine' g_isi_t ?_ ?t ?h); (case t => walk_at "hpT"); (case h => walk_at "kit"))
  | ((with_reducible refine' g_isi_l ?_ ?t ?h ?l); (case l => walk_at "hpH"); (case t => walk_at "hpL"); (case h => walk_at "kit"))
  | ((with_reducible refine' g_lenT ?_ ?h); (case h => walk_at "hpT"))
  | ((with_reducible refine' g_lenL ?_ ?h); (case h => walk_at "hpL"))
  | ((with_reducible refine' g_split ?_ ?h ?side); (case h => exact rfl); intro pnew hpnew)
  | ((with_reducible refine' g_slL ?h ?_); (case h => walk_at "hpL"); intro pnew hpnew)
  | ((with_reducible refine' g_iListE ?_ ?h); (case h => walk_at "hpL"))
  | ((with_reducible refine' g_iTupE ?_ ?h); (case h => walk_at "hpT"))
  | ((with_reducible refine' g_tyL ?_ ?h); (case h => walk_at "hpL"))
  | ((with_reducible refine' g_join ?_ ?h ?side); (case h => walk_at "hpL"))
  | ((with_reducible refine' g_append ?_ ?h ?side); (case h => walk_at "hpH"))
  | ((with_reducible refine' g_all ?_ ?h); (case h => walk_at "hpL"))
  | ((with_reducible refine' g_gTup ?_ ?h ?n); (case h => walk_at "hpT"); (case n => exact rfl))
  | ((with_reducible refine' g_revLE ?h ?_); (case h => walk_at "hpL"); intro pnew hpnew)
  | ((with_reducible refine' g_isN1 ?_ ?h); (case h => first | assumption | (intro z; cases z)))
  | ((with_reducible refine' g_notN1 ?_ ?h); (case h => first | assumption | (intro z; cases z)))
  | walk_at "call"
  | ((with_reducible refine' iteBT ?h ?_); (case h => first | assumption | exact rfl))
  | ((with_reducible refine' iteBF ?h ?_); (case h => first | assumption | exact rfl))
  | fail)
local macro_rules | `(tactic| walk_at "nrm") => `(tactic| simp only [Bool.not_true, Bool.not_false, decide_eq_true_eq, decide_true, decide_false, Bool.true_and, Bool.false_and, Bool.and_true, Bool.and_false, V.int.injEq, V.bl.injEq, V.str.injEq, List.length_cons, List.length_nil, Bool.not_eq_true', decide_eq_false_iff_not, Int.not_lt, Int.not_le, reduceCtorEq, not_false_eq_true, not_true_eq_false, Decidable.not_not] at *)
local macro_rules | `(tactic| walk_at "sp") => `(tactic| ((with_reducible refine ite2 (fun c => ?_) (fun c => ?_)) <;> (try simp only [decide_eq_true_eq, Bool.not_eq_true', decide_eq_false_iff_not, V.int.injEq, V.bl.injEq, V.str.injEq, Int.not_lt, Int.not_le, reduceCtorEq, Decidable.not_not, Bool.false_eq_true, Bool.true_eq_false] at c) <;> (try (exfalso; omega))))
local macro_rules | `(tactic| walk_at "s") => `(tactic| first | walk_at "s0" | walk_at "s1" | fail)
local macro_rules | `(tactic| walk_at "go") => `(tactic| (try dsimp only [cxK, cxK']); repeat' walk_at "s")
local macro_rules | `(tactic| walk_at "gos") => `(tactic| ((try dsimp only [cxK, cxK']); repeat' (first | walk_at "s" | walk_at "sp" | fail)))

local macro_rules | `(tactic| walk_at "hpNo") => `(tactic| with_reducible first
  | assumption
  | (refine' Nm.ofPr ?hq; (case hq => assumption))
  | (refine' Nm.same (same_new (by assumption)) ?hq; (case hq => walk_at "hpNo"))
  | (refine' Nm.same (by assumption) ?hq; (case hq => walk_at "hpNo"))
  | fail)
local macro_rules | `(tactic| walk_at "hpN") => `(tactic| with_reducible first
  | walk_at "hpNo"
  | (refine' Nm.of ?hq; (case hq => walk_at "hpH"))
  | fail)
local macro_rules | `(tactic| walk_at "hpPo") => `(tactic| with_reducible first
  | assumption
  | (refine' Pr.same (same_new (by assumption)) ?hq; (case hq => walk_at "hpPo"))
  | (refine' Pr.same (by assumption) ?hq; (case hq => walk_at "hpPo"))
  | fail)
local macro_rules | `(tactic| walk_at "hpP") => `(tactic| with_reducible first
  | walk_at "hpPo"
  | (refine' Pr.of ?hq; (case hq => walk_at "hpH"))
  | fail)
local macro_rules | `(tactic| walk_at "hpDo") => `(tactic| with_reducible first
  | assumption
  | exact Dq.int _ | exact Dq.bl _ | exact Dq.str _ | exact Dq.non
  | (refine' Dq.same (same_new (by assumption)) ?hq; (case hq => walk_at "hpDo"))
  | (refine' Dq.same (by assumption) ?hq; (case hq => walk_at "hpDo"))
  | fail)
local macro_rules | `(tactic| walk_at "hpD") => `(tactic| with_reducible first
  | walk_at "hpDo"
  | fail)

local macro_rules | `(tactic| walk_at "hpM") => `(tactic| with_reducible first
  | assumption
  | (refine' mk_new ?hn ?hB; (case hn => assumption); (case hB => walk_at "hpB"))
  | (refine' mk_tup ?hn ?hB; (case hn => assumption); (case hB => walk_at "hpB"))
  | (refine' same_at (mk_upd (by assumption)) ?hq; (case hq => walk_at "hpM"))
  | (refine' same_at (show Same (delH _ _) (delH _ _) by assumption) ?hq; (case hq => walk_at "hpM"))
  | (refine' same_at (mk_mono (by assumption)) ?hq; (case hq => walk_at "hpM"))
  | fail)
local macro_rules | `(tactic| walk_at "hpSM") => `(tactic| with_reducible first
  | exact Same.refl _
  | assumption
  | (refine' Same.trans ?hq (mk_upd (by assumption)); (case hq => walk_at "hpSM"))
  | (refine' Same.trans ?hq (show Same (delH _ _) (delH _ _) by assumption); (case hq => walk_at "hpSM"))
  | (refine' Same.trans ?hq (mk_mono (by assumption)); (case hq => walk_at "hpSM"))
  | fail)
local macro_rules | `(tactic| walk_at "hpB") => `(tactic| with_reducible first
  | assumption
  | (refine' bag_upd ?hq (by assumption); (case hq => walk_at "hpB"))
  | (refine' bag_same ?hq (by assumption); (case hq => walk_at "hpB"))
  | fail)
local macro_rules | `(tactic| walk_at "hpHo") => `(tactic| with_reducible first
  | assumption
  | exact upd_same
  | (refine' same_at (same_new (by assumption)) ?hq; (case hq => walk_at "hpHo"))
  | (refine' same_at (by assumption) ?hq; (case hq => walk_at "hpHo"))
  | fail)
local macro_rules | `(tactic| walk_at "hpH") => `(tactic| with_reducible first
  | walk_at "hpHo"
  | (refine' same_at mk_same ?hq; (case hq => walk_at "hpM"))
  | fail)
local macro_rules | `(tactic| walk_at "hpNo") => `(tactic| with_reducible first
  | assumption
  | (refine' Nm.ofPr ?hq; (case hq => assumption))
  | (refine' Nm.same (same_new (by assumption)) ?hq; (case hq => walk_at "hpNo"))
  | (refine' Nm.same (by assumption) ?hq; (case hq => walk_at "hpNo"))
  | fail)
local macro_rules | `(tactic| walk_at "hpNMo") => `(tactic| with_reducible first
  | assumption
  | (refine' Nm.ofPr ?hq; (case hq => assumption))
  | (refine' Nm.same (mk_upd (by assumption)) ?hq; (case hq => walk_at "hpNMo"))
  | (refine' Nm.same (show Same (delH _ _) (delH _ _) by assumption) ?hq; (case hq => walk_at "hpNMo"))
  | (refine' Nm.same (mk_mono (by assumption)) ?hq; (case hq => walk_at "hpNMo"))
  | fail)
local macro_rules | `(tactic| walk_at "hpNM") => `(tactic| with_reducible first
  | walk_at "hpNMo"
  | (refine' Nm.of ?hq; (case hq => walk_at "hpM"))
  | fail)
local macro_rules | `(tactic| walk_at "hpN") => `(tactic| with_reducible first
  | walk_at "hpNo"
  | (refine' Nm.same mk_same ?hq; (case hq => walk_at "hpNMo"))
  | (refine' Nm.of ?hq; (case hq => walk_at "hpH"))
  | fail)
local macro_rules | `(tactic| walk_at "hpPo") => `(tactic| with_reducible first
  | assumption
  | (refine' Pr.same (same_new (by assumption)) ?hq; (case hq => walk_at "hpPo"))
  | (refine' Pr.same (by assumption) ?hq; (case hq => walk_at "hpPo"))
  | fail)
local macro_rules | `(tactic| walk_at "hpPMo") => `(tactic| with_reducible first
  | assumption
  | (refine' Pr.same (mk_upd (by assumption)) ?hq; (case hq => walk_at "hpPMo"))
  | (refine' Pr.same (show Same (delH _ _) (delH _ _) by assumption) ?hq; (case hq => walk_at "hpPMo"))
  | (refine' Pr.same (mk_mono (by assumption)) ?hq; (case hq => walk_at "hpPMo"))
  | fail)
local macro_rules | `(tactic| walk_at "hpPM") => `(tactic| with_reducible first
  | walk_at "hpPMo"
  | (refine' Pr.of ?hq; (case hq => walk_at "hpM"))
  | fail)
local macro_rules | `(tactic| walk_at "hpP") => `(tactic| with_reducible first
  | walk_at "hpPo"
  | (refine' Pr.same mk_same ?hq; (case hq => walk_at "hpPMo"))
  | (refine' Pr.of ?hq; (case hq => walk_at "hpH"))
  | fail)
local macro_rules | `(tactic| walk_at "hpDo") => `(tactic| with_reducible first
  | assumption
  | exact Dq.int _ | exact Dq.bl _ | exact Dq.str _ | exact Dq.non
  | (refine' Dq.same (same_new (by assumption)) ?hq; (case hq => walk_at "hpDo"))
  | (refine' Dq.same (by assumption) ?hq; (case hq => walk_at "hpDo"))
  | fail)
local macro_rules | `(tactic| walk_at "hpDMo") => `(tactic| with_reducible first
  | assumption
  | exact Dq.int _ | exact Dq.bl _ | exact Dq.str _ | exact Dq.non
  | (refine' Dq.same (mk_upd (by assumption)) ?hq; (case hq => walk_at "hpDMo"))
  | (refine' Dq.same (show Same (delH _ _) (delH _ _) by assumption) ?hq; (case hq => walk_at "hpDMo"))
  | (refine' Dq.same (mk_mono (by assumption)) ?hq; (case hq => walk_at "hpDMo"))
  | fail)
local macro_rules | `(tactic| walk_at "hpDM") => `(tactic| with_reducible first
  | walk_at "hpDMo"
  | fail)
local macro_rules | `(tactic| walk_at "hpD") => `(tactic| with_reducible first
  | walk_at "hpDo"
  | (refine' Dq.same mk_same ?hq; (case hq => walk_at "hpDMo"))
  | fail)
local macro_rules | `(tactic| walk_at "call") => `(tactic| first
  | ((with_reducible refine' sp_draw ?_ ?h ?side1 ?side2); (case h => walk_at "hpB"); intro idraw Hd' hi0 hi1 sd' bd')
  | fail)

local macro_rules | `(tactic| walk_at "call") => `(tactic| first
  | ((with_reducible refine' sp_handed ?_ ?h ?B); (case h => walk_at "hpM"); (case B => walk_at "hpB"); intro xhd Hhd hnd shd bhd)
  | ((with_reducible refine' sp_opK ?_ ?h1 ?h2 ?s1 ?s2 ?s3 ?s4); (case h1 => walk_at "hpN"); (case h2 => walk_at "hpN"); intro top Hop sop hop)
  | ((with_reducible refine' sp_overK ?_ ?h1 ?h2 ?s1 ?s2 ?s3 ?s4 ?s5); (case h1 => walk_at "hpN"); (case h2 => walk_at "hpN"); intro top Hop sop hop)
  | ((with_reducible refine' sp_lopK ?_ ?h1 ?h2 ?s1 ?s2 ?s3 ?s4); (case h1 => walk_at "hpH"); (case h2 => walk_at "hpH"); intro tlo Hlo slo hlo)
  | (with_reducible refine g_callK ?_)
  | (with_reducible refine g_krev ?_)
  | fail)
section
variable {P : Program} {w : World} {K : Fg} {mg : Str → Option Value} {base : Heap} {f f1 f2 f3 f4 f5 f6 f7 f8 f9 : Addr} {fd : FuncData}
theorem ok_l_step (F : Fun K "_law_step" "_law_step" s_l_step f fd) (T : Blt mg) (D_l_handed : Df P w K mg base 2 "_law_handed" f1 ["_law_bag_here", "_law_one"] spHanded)
    (D_plus : Df P w K mg base 2 "plus" f2 ["a", "b"] (spOp add)) (D_minus : Df P w K mg base 2 "minus" f3 ["a", "b"] (spOp sub)) (D_times : DfK P w K mg base 2 "times" f4 ["a", "b"] ["b", "a"] gRev (spOp mul)) (D_over : Df P w K mg base 2 "over" f5 ["a", "b"] spOver)
    (D_l_add : Df P w K mg base 2 "_law_add" f6 ["_law_one", "_law_two"] (spLop add)) (D_l_take : Df P w K mg base 2 "_law_take" f7 ["_law_one", "_law_two"] (spLop sub)) (D_l_mul : Df P w K mg base 2 "_law_mul" f8 ["_law_one", "_law_two"] (spLop mul)) : FnOk P w K mg base CX0 3 f fd ["_law_bag_here", "_law_way", "_law_one", "_law_two"] spStep := by
  obtain ⟨_, G_l_handed, B_l_handed⟩ := D_l_handed.ok
  obtain ⟨_, G_plus, B_plus⟩ := D_plus.ok
  obtain ⟨_, G_minus, B_minus⟩ := D_minus.ok
  obtain ⟨_, G_times, KB_times⟩ := D_times.ok
  obtain ⟨_, G_over, B_over⟩ := D_over.ok
  obtain ⟨_, G_l_add, B_l_add⟩ := D_l_add.ok
  obtain ⟨_, G_l_take, B_l_take⟩ := D_l_take.ok
  obtain ⟨_, G_l_mul, B_l_mul⟩ := D_l_mul.ok
  refine F.ok sc_l_step (fun vs H Q E h => ?_) (fun cdv A outer s H vs Q E hr h => ?_)
  · obtain ⟨b, c, t, u, w, n, d, m, e, rfl, _⟩ := h
    rfl
  · obtain ⟨b, c, t, u, w, n, d, m, e, rfl, B, ht, hu, h1, h2, w0, w1, hw, k⟩ := h
    refine ⟨_, (pss_cons (ps_par (i := 4) (j := 5) rfl sc_l_step.nd rfl rfl (by decide) rfl rfl (pa_cons (pe_call G_l_handed (hr.mono (by decide)) (by rfl) D_l_handed.g D_l_handed.kp B_l_handed .nil pass0 (pa_cons (pv 0) (pa_cons (pv 2) pa_nil))) (pa_cons (pe_call G_l_handed (hr.mono (by decide)) (by rfl) D_l_handed.g D_l_handed.kp B_l_handed .nil pass0 (pa_cons (pv 0) (pa_cons (pv 3) pa_nil))) pa_nil)) rfl)
      (pss_cons (ps_if (pt_cmpR op_eq (pv 1) pe_int (nomark _))
      (pss_one (ps_ret (pe_lst (pa_cons (pe_call G_plus (hr.mono (by decide)) (by rfl) D_plus.g D_plus.kp B_plus .nil pass0 (pa_cons (pv 4) (pa_cons (pv 5) pa_nil))) (pa_cons (pe_call G_l_add (hr.mono (by decide)) (by rfl) D_l_add.g D_l_add.kp B_l_add .nil pass0 (pa_cons (pv 2) (pa_cons (pv 3) pa_nil))) pa_nil))))) pss_nil)
      (pss_cons (ps_if (pt_cmpR op_eq (pv 1) pe_int (nomark _))
      (pss_one (ps_ret (pe_lst (pa_cons (pe_call G_minus (hr.mono (by decide)) (by rfl) D_minus.g D_minus.kp B_minus .nil pass0 (pa_cons (pv 4) (pa_cons (pv 5) pa_nil))) (pa_cons (pe_call G_l_take (hr.mono (by decide)) (by rfl) D_l_take.g D_l_take.kp B_l_take .nil pass0 (pa_cons (pv 2) (pa_cons (pv 3) pa_nil))) pa_nil))))) pss_nil)
      (pss_cons (ps_if (pt_cmpR op_eq (pv 1) pe_int (nomark _))
      (pss_one (ps_ret (pe_lst (pa_cons (pe_callK0 G_times (hr.mono (by decide)) (by rfl) D_times.g D_times.kp KB_times pass0 (pk_cons (pv 5) (pk_cons (pv 4) pk_nil))) (pa_cons (pe_call G_l_mul (hr.mono (by decide)) (by rfl) D_l_mul.g D_l_mul.kp B_l_mul .nil pass0 (pa_cons (pv 2) (pa_cons (pv 3) pa_nil))) pa_nil))))) pss_nil)
      (pss_cons (ps_set (i := 6) sc_l_step.nd rfl (.inl rfl) (pe_ifExp (pt_cmpR op_gt (pe_ix (ix_seqK K) (pv 3) pe_int (fun _ _ => rfl)) pe_int (nomark _)) (pe_tup (pa_cons (pe_ix (ix_seqK K) (pv 3) pe_int (fun _ _ => rfl)) (pa_cons (pe_ix (ix_seqK K) (pv 3) pe_int (fun _ _ => rfl)) pa_nil))) (pe_tup (pa_cons (pe_un un_neg (pe_ix (ix_seqK K) (pv 3) pe_int (fun _ _ => rfl))) (pa_cons (pe_un un_neg (pe_ix (ix_seqK K) (pv 3) pe_int (fun _ _ => rfl))) pa_nil)))))
      (pss_one (ps_ret (pe_lst (pa_cons (pe_call G_over (hr.mono (by decide)) (by rfl) D_over.g D_over.kp B_over .nil pass0 (pa_cons (pv 4) (pa_cons (pv 5) pa_nil))) (pa_cons (pe_call G_l_mul (hr.mono (by decide)) (by rfl) D_l_mul.g D_l_mul.kp B_l_mul .nil pass0 (pa_cons (pv 2) (pa_cons (pv 6) pa_nil))) pa_nil)))))))))), ?_⟩
    have d0 : 0 < d := h1.1.1
    have e0 : 0 < e := h2.1.1
    have s1 := h1.sz
    have s2 := h2.sz
    have l1 := h1.1
    have l2 := h2.1
    have s3 : Sz 4400 (e, m) := ⟨s2.2, s2.1⟩
    have s4 : Sz 4400 (-e, -m) := ⟨by show (-e).natAbs < _; rw [Int.natAbs_neg]; exact s2.2, by show (-m).natAbs < _; rw [Int.natAbs_neg]; exact s2.1⟩
    have hw' : w ≠ 3 ∨ m ≠ 0 := by
      by_cases z : w = 3
      · exact .inr (hw z)
      · exact .inl z
    walk_at "gos"
    all_goals first
      | assumption
      | omega
      | exact hw (by omega)
      | skip
    · refine' k _ _ _ _ _ _ ?h1 ?h2 ?h3 ?h4 ?h5 ?h6
      case h1 => walk_at "hpM"
      case h2 => walk_at "hpM"
      case h3 => walk_at "hpM"
      case h4 => exact low_lo (mul_pos' d0 e0)
      case h5 => walk_at "hpSM"
      case h6 => walk_at "hpB"
    · refine' k _ _ _ _ _ _ ?h1 ?h2 ?h3 ?h4 ?h5 ?h6
      case h1 => walk_at "hpM"
      case h2 => walk_at "hpM"
      case h3 => walk_at "hpM"
      case h4 => exact low_lo (mul_pos' d0 e0)
      case h5 => walk_at "hpSM"
      case h6 => walk_at "hpB"
    · refine' k _ _ _ _ _ _ ?h1 ?h2 ?h3 ?h4 ?h5 ?h6
      case h1 => walk_at "hpM"
      case h2 => walk_at "hpM"
      case h3 => walk_at "hpM"
      case h4 => exact low_lo (mul_pos' d0 e0)
      case h5 => walk_at "hpSM"
      case h6 => walk_at "hpB"
    · have hm : m ≠ 0 := hw (by omega)
      have et : dv (n, d) (m, e) = mul (n, d) (e, m) := by
        rw [dv_turn hm e0 d0, if_pos (show 0 < m by omega)]
      refine' k _ _ _ _ _ _ ?h1 ?h2 ?h3 ?h4 ?h5 ?h6
      case h1 => walk_at "hpM"
      case h2 => walk_at "hpM"
      case h3 =>
        rw [et]
        walk_at "hpM"
      case h4 => exact red_lo (Int.mul_ne_zero (by omega) hm)
      case h5 => walk_at "hpSM"
      case h6 => walk_at "hpB"
    · have hm : m ≠ 0 := hw (by omega)
      have et : dv (n, d) (m, e) = mul (n, d) (-e, -m) := by
        rw [dv_turn hm e0 d0, if_neg (show ¬ 0 < m by omega)]
      refine' k _ _ _ _ _ _ ?h1 ?h2 ?h3 ?h4 ?h5 ?h6
      case h1 => walk_at "hpM"
      case h2 => walk_at "hpM"
      case h3 =>
        rw [et]
        walk_at "hpM"
      case h4 => exact red_lo (Int.mul_ne_zero (by omega) hm)
      case h5 => walk_at "hpSM"
      case h6 => walk_at "hpB"
end
end Ko


namespace Ko
open PySem L2 PySem.Spec PyProof.Rows Xm
def spOverNone : Sp := fun vs H Q _ => ∃ (b c t : Addr) (n d : Int), vs = [.ref b, .ref t] ∧ Bag H b c ∧ delH H b t = some (.tup [.int n, .int d]) ∧ ∀ H', Same (delH H b) (delH H' b) → Bag H' b c → Q (.bl true) H'
def spRuns : Sp := fun vs H Q _ => ∃ (b c l : Addr) (xs : List V), vs = [.ref b, .ref l] ∧ Bag H b c ∧ delH H b l = some (.lst xs) ∧ Pool (delH H b) xs ∧ 0 < xs.length ∧ xs.length ≤ 100 ∧ ∀ H', Same (delH H b) (delH H' b) → Bag H' b c → Q (.bl true) H'
theorem BigQ.big {q : Pq} (h : BigQ q) : Big q := h
section
variable {H : Hp} {Q : VK} {E : XK} {b c t u l : Addr} {n d m e : Int} {xs : List V} {x y : V}
theorem sp_ofP (k : ∀ t n d H', delH H' b t = some (.tup [.int n, .int d]) → Big (n, d) → Same (delH H b) (delH H' b) → Bag H' b c → Q (.ref t) H') (h : delH H b l = some (.lst xs)) (hp : Pool (delH H b) xs) (B : Bag H b c) (h0 : 0 < xs.length) (h1 : xs.length < 1000) : spOf [.ref b, .ref l] H Q E :=
  sp_of h B h0 h1 fun x H' hx s B' => by
    obtain ⟨t, n, d, rfl, ht, hb⟩ := hp x hx
    exact k t n d H' (s _ _ ht) hb s B'
theorem sp_belowK (k : Q (.bl (under (n, d) (m, e))) H) (h : H t = some (.tup [.int n, .int d])) (h' : H u = some (.tup [.int m, .int e])) (s1 : Sz 4400 (n, d)) (s2 : Sz 4400 (m, e)) : spBelow [.ref t, .ref u] H Q E :=
  ⟨.ref t, .ref u, (n, d), (m, e), rfl, ⟨t, rfl, h⟩, ⟨u, rfl, h'⟩, s1, s2, k⟩
theorem sp_compareK {p q : Pq} (k : ∀ H', Same H H' → Q (.int (if under p q = true then -1 else if under q p = true then 1 else 0)) H') (hx : Nm H x p) (hy : Nm H y q) (s1 : Sz 4400 p) (s2 : Sz 4400 q) : spCompare [x, y] H Q E := ⟨x, y, p, q, rfl, hx, hy, s1, s2, k⟩
theorem sp_likeI {i j : Int} (k : ∀ H', Same H H' → Q (.bl true) H') (h : i = j) : spLike 4 [.int i, .int j] H Q E := ⟨_, _, .int i, rfl, .int i, h ▸ .int i, trivial, k⟩
theorem sp_likeT {x y : Int} (k : ∀ H', Same H H' → Q (.bl true) H') (h : H t = some (.tup [.int x, .int y])) (h' : H u = some (.tup [.int x, .int y])) : spLike 4 [.ref t, .ref u] H Q E := ⟨_, _, .tup [.int x, .int y], rfl, .pr h, .pr h', by simp [Dt.ok], k⟩
theorem sp_likeS {i : Str} (k : ∀ H', Same H H' → Q (.bl true) H') : spLike 4 [.str i, .str i] H Q E := ⟨_, _, .str i, rfl, .str i, .str i, trivial, k⟩
theorem sp_overN (k : ∀ H', Same (delH H b) (delH H' b) → Bag H' b c → Q (.bl true) H') (h : delH H b t = some (.tup [.int n, .int d])) (B : Bag H b c) : spOverNone [.ref b, .ref t] H Q E := ⟨b, c, t, n, d, rfl, B, h, k⟩
theorem sp_stepK {w : Int} (k : ∀ l t1 t2 x y H', delH H' b l = some (.lst [.ref t1, .ref t2]) → delH H' b t1 = some (.tup [.int x, .int y]) → delH H' b t2 = some (.tup [.int x, .int y]) → Lo (x, y) → Same (delH H b) (delH H' b) → Bag H' b c → Q (.ref l) H')
    (h : delH H b t = some (.tup [.int n, .int d])) (h' : delH H b u = some (.tup [.int m, .int e])) (B : Bag H b c) (h1 : Big (n, d)) (h2 : Big (m, e)) (w0 : 0 ≤ w) (w1 : w < 4) (hw : w = 3 → m ≠ 0) : spStep [.ref b, .int w, .ref t, .ref u] H Q E :=
  ⟨b, c, t, u, w, n, d, m, e, rfl, B, h, h', h1, h2, w0, w1, hw, k⟩
theorem sp_textK {q : Pq} (k : ∀ H', Same H H' → Q (.str (txt q)) H') (hx : Nm H x q) (h : Big q) : spText [x] H Q E := ⟨x, q, rfl, hx, h.1.1, h.2.1, h.2.2, k⟩
theorem sp_exactS {q : Pq} (k : Ret H Q q) (h : Big q) : spExact [.str (txt q)] H Q E := ⟨.str (txt q), .str (txt q), q, rfl, .str _, Nat.le_trans (txt_len h) (by decide), read_txt h, k⟩
theorem sp_numT (k : Q (.bl true) H) (h : H t = some (.tup [.int n, .int d])) (hl : Lo (n, d)) : spNum [.ref t] H Q E := ⟨.ref t, .tup [.int n, .int d], rfl, .pr h, by
  have e : Dt.isNum (.tup [.int n, .int d]) = true := by
    show (decide (0 < d) && decide (Int.gcd n d = 1)) = true
    rw [decide_eq_true hl.1, decide_eq_true hl.2]
    rfl
  rw [e]
  exact k⟩
end
theorem all_true {ys : List V} {n : Nat} (hl : ys.length = n) (h : ∀ (k : Nat) v, ys[k]? = some v → v = .bl true) : ys = (List.replicate n true).map V.bl := by
  rw [List.map_replicate]
  exact List.eq_replicate_iff.mpr ⟨hl, fun v hv => by
    obtain ⟨k, hk⟩ := List.mem_iff_getElem?.mp hv
    exact h k v hk⟩
theorem rep_all (n : Nat) : (List.replicate n true).all id = true := by simp
theorem NmP {H : Hp} {a : Addr} {n d : Int} (h : H a = some (.tup [.int n, .int d])) : Nm H (.ref a) (n, d) := .inl ⟨a, rfl, h⟩
/-- drawn numbers, new beside D -/
def Drw (b D : Addr) (H : Hp) (y : V) : Prop := ∃ t n d, y = .ref t ∧ t ≠ D ∧ delH H b t = some (.tup [.int n, .int d]) ∧ Big (n, d)
theorem Drw.mono {b D : Addr} {H H' : Hp} {y : V} (h : ButB b D H H') (f : Drw b D H y) : Drw b D H' y := by
  obtain ⟨t, n, d, e, ne, ht, hb⟩ := f
  exact ⟨t, n, d, e, ne, h _ _ ne ht, hb⟩
theorem drw_pool {b D : Addr} {H : Hp} {ys : List V} (h : ∀ (k : Nat) v, ys[k]? = some v → Drw b D H v) : Pool (delH H b) ys := fun v hv => by
  obtain ⟨k, hk⟩ := List.mem_iff_getElem?.mp hv
  obtain ⟨t, n, d, e, _, ht, hb⟩ := h k v hk
  exact ⟨t, n, d, e, ht, hb⟩
theorem cmp_due (p q : Pq) : (if under p q = true then (-1 : Int) else if under q p = true then 1 else 0) = (if under q p = true then 1 else 0) - (if under p q = true then 1 else 0) := by
  cases c : under p q with
  | true => rw [under_asym c]; rfl
  | false => cases under q p <;> rfl

local macro_rules | `(tactic| walk_at "hpS") => `(tactic| with_reducible first
  | exact Same.refl _
  | assumption
  | (refine' Same.trans ?hq (same_new (by assumption)); (case hq => walk_at "hpS"))
  | (refine' Same.trans ?hq (by assumption); (case hq => walk_at "hpS"))
  | fail)
local macro_rules | `(tactic| walk_at "hpH") => `(tactic| with_reducible first
  | assumption
  | exact upd_same
  | (refine' same_at (same_new (by assumption)) ?hq; (case hq => walk_at "hpH"))
  | (refine' same_at (by assumption) ?hq; (case hq => walk_at "hpH"))
  | fail)
local macro_rules | `(tactic| walk_at "hpTo") => `(tactic| with_reducible first
  | assumption
  | (refine' sq_t (same_new (by assumption)) ?hq; (case hq => walk_at "hpTo"))
  | (refine' sq_t (by assumption) ?hq; (case hq => walk_at "hpTo"))
  | fail)
local macro_rules | `(tactic| walk_at "hpT") => `(tactic| with_reducible first
  | (refine' SqT.of ?hq; (case hq => walk_at "hpH"))
  | walk_at "hpTo"
  | fail)
local macro_rules | `(tactic| walk_at "hpLo") => `(tactic| with_reducible first
  | assumption
  | (refine' sq_l (same_new (by assumption)) ?hq; (case hq => walk_at "hpLo"))
  | (refine' sq_l (by assumption) ?hq; (case hq => walk_at "hpLo"))
  | fail)
local macro_rules | `(tactic| walk_at "hpL") => `(tactic| with_reducible first
  | (refine' SqL.of ?hq; (case hq => walk_at "hpH"))
  | walk_at "hpLo"
  | fail)
local macro_rules | `(tactic| walk_at "kit") => `(tactic| with_reducible first
  | exact kit_int_bool | exact kit_int_int | exact kit_int_tuple | exact kit_int_list | exact kit_int_str
  | exact kit_tuple_tuple | exact kit_tuple_int | exact kit_tuple_bool | exact kit_tuple_list | exact kit_tuple_str
  | exact kit_bool_bool | exact kit_bool_int | exact kit_bool_tuple | exact kit_bool_list | exact kit_bool_str
  | exact kit_str_str | exact kit_str_int | exact kit_str_bool | exact kit_str_tuple | exact kit_str_list
  | exact kit_NoneType_int | exact kit_NoneType_bool | exact kit_NoneType_tuple | exact kit_NoneType_list | exact kit_NoneType_str
  | exact kit_list_list | exact kit_list_tuple | exact kit_list_int | exact kit_list_bool | exact kit_list_str
  | fail)
local macro_rules | `(tactic| walk_at "call") => `(tactic| fail)
local macro_rules | `(tactic| walk_at "s0") => `(tactic| with_reducible first
  | refine g_seq ?_ | refine g_asg ?_ | refine g_name ?_ | refine g_ifS ?_ | refine g_ret ?_ | refine g_retN ?_ | refine g_next ?_
  | refine g_par ?_ | refine g_parE ?_ | refine g_drop ?_
  | refine g_c ?_ | refine g_op ?_ | refine g_un ?_ | refine g_cb ?_ | refine g_call ?_ | refine g_nil ?_ | refine g_cons ?_ | refine g_tup ?_ | refine g_lst ?_
  | refine g_test ?_ | refine g_B ?_ | refine g_blF ?_ | refine g_and ?_ | refine g_or ?_ | refine g_not ?_ | refine g_andV ?_ | refine g_orV ?_ | refine g_notV ?_ | refine g_if ?_
  | refine iteT ?_ | refine iteF ?_
  | refine g_chain ?_ | refine g_sl ?_ | refine g_noPart ?_ | refine g_part ?_ | refine g_partI ?_ | refine g_slS ?_ ?side | refine g_M1 ?_ | refine g_M1s ?_ | refine g_starts ?_ | refine g_bm ?_ | refine g_bm0 ?_ | refine g_tyS ?_
  | refine g_Fs ?_ | refine g_JsN ?_ | refine g_JsC ?_ | refine g_JsE ?_ ?side | refine g_fmt ?_ | refine g_fmtI ?_ ?side | refine g_fmtS ?_ ?side | refine g_iList ?_ | refine g_iTup ?_ | refine g_iStr ?_ | refine g_iStrE ?_ | refine g_iRng1 ?_ | refine g_iRng1E ?_ ?side1 ?side2 | refine g_yes ?_ | refine g_ckw ?_ | refine g_dget ?_ | refine g_dictZip ?_ | refine g_gCons ?_ | refine g_gNil ?_ | refine g_revL ?_ | refine g_for ?_ | refine g_lc ?_ | refine g_addS ?_ ?side | refine g_str ?_ ?side | refine g_lenS ?_ ?side
  | refine g_rI0 ?_ | refine g_rI ?_ ?side | refine g_rU ?_ | refine g_abs ?_ | refine g_int ?_ | refine g_intB ?_ | refine g_gcd ?_ | refine g_inS ?_ | refine g_isN0 ?_ | refine g_notN0 ?_
  | fail)
local macro_rules | `(tactic| walk_at "s1") => `(tactic| first
  | ((with_reducible refine' g_var ?h ?_); (case h => exact rfl))
  | ((with_reducible refine' g_new ?h ?_); (case h => exact (by simp only [List.length_cons, List.length_nil]; decide)); intro tnew htnew)
  | ((with_reducible refine' iteDT ?h ?_); (case h => first | exact rfl | assumption))
  | ((with_reducible refine' iteNT ?h ?_); (case h => first | exact rfl | assumption))
  | ((with_reducible refine' iteDF ?h ?_); (case h => first | assumption | (intro z; cases z)))
  | ((with_reducible refine' iteNF ?h ?_); (case h => first | assumption | (intro z; cases z)))
  | ((with_reducible refine' g_eq ?_ ?h); (case h => exact rfl))
  | ((with_reducible refine' g_ne ?_ ?h); (case h => exact rfl))
  | ((with_reducible refine' g_ixT ?_ ?h ?e); (case h => walk_at "hpT"); (case e => first | exact rfl | exact atI_0 | exact atI_1))
  | ((with_reducible refine' g_ixL ?_ ?h ?e); (case h => walk_at "hpL"); (case e => first | exact rfl | exact atI_0 | exact atI_1))
  | ((with_reducible refine' g_isi_int ?_ ?h); (case h => walk_at "kit"))
  | ((with_reducible refine' g_isi_str ?_ ?h); (case h => walk_at "kit"))
  | ((with_reducible refine' g_isi_bl ?_ ?h); (case h => walk_at "kit"))
  | ((with_reducible refine' g_isi_non ?_ ?h); (case h => walk_at "kit"))
  | ((with_reducible refine' g_isi_t ?_ ?t ?h); (case t => walk_at "hpT"); (case h => walk_at "kit"))
  | ((with_reducible refine' g_isi_l ?_ ?t ?h ?l); (case l => walk_at "hpH"); (case t => walk_at "hpL"); (case h => walk_at "kit"))
  | ((with_reducible refine' g_lenT ?_ ?h); (case h => walk_at "hpT"))
  | ((with_reducible refine' g_lenL ?_ ?h); (case h => walk_at "hpL"))
  | ((with_reducible refine' g_split ?_ ?h ?side); (case h => exact rfl); intro pnew hpnew)
  | ((with_reducible refine' g_slL ?h ?_); (case h => walk_at "hpL"); intro pnew hpnew)
  | ((with_reducible refine' g_iListE ?_ ?h); (case h => walk_at "hpL"))
  | ((with_reducible refine' g_iTupE ?_ ?h); (case h => walk_at "hpT"))
  | ((with_reducible refine' g_tyL ?_ ?h); (case h => walk_at "hpL"))
  | ((with_reducible refine' g_join ?_ ?h ?side); (case h => walk_at "hpL"))
  | ((with_reducible refine' g_append ?_ ?h ?side); (case h => walk_at "hpH"))
  | ((with_reducible refine' g_all ?_ ?h); (case h => walk_at "hpL"))
  | ((with_reducible refine' g_gTup ?_ ?h ?n); (case h => walk_at "hpT"); (case n => exact rfl))
  | ((with_reducible refine' g_revLE ?h ?_); (case h => walk_at "hpL"); intro pnew hpnew)
  | ((with_reducible refine' g_isN1 ?_ ?h); (case h => first | assumption | (intro z; cases z)))
  | ((with_reducible refine' g_notN1 ?_ ?h); (case h => first | assumption | (intro z; cases z)))
  | walk_at "call"
  | ((with_reducible refine' iteBT ?h ?_); (case h => first | assumption | exact rfl))
  | ((with_reducible refine' iteBF ?h ?_); (case h => first | assumption | exact rfl))
  | fail)
local macro_rules | `(tactic| walk_at "nrm") => `(tactic| simp only [Bool.not_true, Bool.not_false, decide_eq_true_eq, decide_true, decide_false, Bool.true_and, Bool.false_and, Bool.and_true, Bool.and_false, V.int.injEq, V.bl.injEq, V.str.injEq, List.length_cons, List.length_nil, Bool.not_eq_true', decide_eq_false_iff_not, Int.not_lt, Int.not_le, reduceCtorEq, not_false_eq_true, not_true_eq_false, Decidable.not_not] at *)
local macro_rules | `(tactic| walk_at "sp") => `(tactic| ((with_reducible refine ite2 (fun c => ?_) (fun c => ?_)) <;> (try simp only [decide_eq_true_eq, Bool.not_eq_true', decide_eq_false_iff_not, V.int.injEq, V.bl.injEq, V.str.injEq, Int.not_lt, Int.not_le, reduceCtorEq, Decidable.not_not, Bool.false_eq_true, Bool.true_eq_false] at c) <;> (try (exfalso; omega))))
local macro_rules | `(tactic| walk_at "s") => `(tactic| first | walk_at "s0" | walk_at "s1" | fail)
local macro_rules | `(tactic| walk_at "go") => `(tactic| (try dsimp only [cxK, cxK']); repeat' walk_at "s")
local macro_rules | `(tactic| walk_at "gos") => `(tactic| ((try dsimp only [cxK, cxK']); repeat' (first | walk_at "s" | walk_at "sp" | fail)))

local macro_rules | `(tactic| walk_at "hpNo") => `(tactic| with_reducible first
  | assumption
  | (refine' Nm.ofPr ?hq; (case hq => assumption))
  | (refine' Nm.same (same_new (by assumption)) ?hq; (case hq => walk_at "hpNo"))
  | (refine' Nm.same (by assumption) ?hq; (case hq => walk_at "hpNo"))
  | fail)
local macro_rules | `(tactic| walk_at "hpN") => `(tactic| with_reducible first
  | walk_at "hpNo"
  | (refine' Nm.of ?hq; (case hq => walk_at "hpH"))
  | fail)
local macro_rules | `(tactic| walk_at "hpPo") => `(tactic| with_reducible first
  | assumption
  | (refine' Pr.same (same_new (by assumption)) ?hq; (case hq => walk_at "hpPo"))
  | (refine' Pr.same (by assumption) ?hq; (case hq => walk_at "hpPo"))
  | fail)
local macro_rules | `(tactic| walk_at "hpP") => `(tactic| with_reducible first
  | walk_at "hpPo"
  | (refine' Pr.of ?hq; (case hq => walk_at "hpH"))
  | fail)
local macro_rules | `(tactic| walk_at "hpDo") => `(tactic| with_reducible first
  | assumption
  | exact Dq.int _ | exact Dq.bl _ | exact Dq.str _ | exact Dq.non
  | (refine' Dq.same (same_new (by assumption)) ?hq; (case hq => walk_at "hpDo"))
  | (refine' Dq.same (by assumption) ?hq; (case hq => walk_at "hpDo"))
  | fail)
local macro_rules | `(tactic| walk_at "hpD") => `(tactic| with_reducible first
  | walk_at "hpDo"
  | fail)

local macro_rules | `(tactic| walk_at "hpM") => `(tactic| with_reducible first
  | assumption
  | (refine' mk_new ?hn ?hB; (case hn => assumption); (case hB => walk_at "hpB"))
  | (refine' mk_tup ?hn ?hB; (case hn => assumption); (case hB => walk_at "hpB"))
  | (refine' same_at (mk_upd (by assumption)) ?hq; (case hq => walk_at "hpM"))
  | (refine' same_at (show Same (delH _ _) (delH _ _) by assumption) ?hq; (case hq => walk_at "hpM"))
  | (refine' same_at (mk_mono (by assumption)) ?hq; (case hq => walk_at "hpM"))
  | fail)
local macro_rules | `(tactic| walk_at "hpSM") => `(tactic| with_reducible first
  | exact Same.refl _
  | assumption
  | (refine' Same.trans ?hq (mk_upd (by assumption)); (case hq => walk_at "hpSM"))
  | (refine' Same.trans ?hq (show Same (delH _ _) (delH _ _) by assumption); (case hq => walk_at "hpSM"))
  | (refine' Same.trans ?hq (mk_mono (by assumption)); (case hq => walk_at "hpSM"))
  | fail)
local macro_rules | `(tactic| walk_at "hpB") => `(tactic| with_reducible first
  | assumption
  | (refine' bag_upd ?hq (by assumption); (case hq => walk_at "hpB"))
  | (refine' bag_same ?hq (by assumption); (case hq => walk_at "hpB"))
  | fail)
local macro_rules | `(tactic| walk_at "hpHo") => `(tactic| with_reducible first
  | assumption
  | exact upd_same
  | (refine' same_at (same_new (by assumption)) ?hq; (case hq => walk_at "hpHo"))
  | (refine' same_at (by assumption) ?hq; (case hq => walk_at "hpHo"))
  | fail)
local macro_rules | `(tactic| walk_at "hpH") => `(tactic| with_reducible first
  | walk_at "hpHo"
  | (refine' same_at mk_same ?hq; (case hq => walk_at "hpM"))
  | fail)
local macro_rules | `(tactic| walk_at "hpNo") => `(tactic| with_reducible first
  | assumption
  | (refine' Nm.ofPr ?hq; (case hq => assumption))
  | (refine' Nm.same (same_new (by assumption)) ?hq; (case hq => walk_at "hpNo"))
  | (refine' Nm.same (by assumption) ?hq; (case hq => walk_at "hpNo"))
  | fail)
local macro_rules | `(tactic| walk_at "hpNMo") => `(tactic| with_reducible first
  | assumption
  | (refine' Nm.ofPr ?hq; (case hq => assumption))
  | (refine' Nm.same (mk_upd (by assumption)) ?hq; (case hq => walk_at "hpNMo"))
  | (refine' Nm.same (show Same (delH _ _) (delH _ _) by assumption) ?hq; (case hq => walk_at "hpNMo"))
  | (refine' Nm.same (mk_mono (by assumption)) ?hq; (case hq => walk_at "hpNMo"))
  | fail)
local macro_rules | `(tactic| walk_at "hpNM") => `(tactic| with_reducible first
  | walk_at "hpNMo"
  | (refine' Nm.of ?hq; (case hq => walk_at "hpM"))
  | fail)
local macro_rules | `(tactic| walk_at "hpN") => `(tactic| with_reducible first
  | walk_at "hpNo"
  | (refine' Nm.same mk_same ?hq; (case hq => walk_at "hpNMo"))
  | (refine' Nm.of ?hq; (case hq => walk_at "hpH"))
  | fail)
local macro_rules | `(tactic| walk_at "hpPo") => `(tactic| with_reducible first
  | assumption
  | (refine' Pr.same (same_new (by assumption)) ?hq; (case hq => walk_at "hpPo"))
  | (refine' Pr.same (by assumption) ?hq; (case hq => walk_at "hpPo"))
  | fail)
local macro_rules | `(tactic| walk_at "hpPMo") => `(tactic| with_reducible first
  | assumption
  | (refine' Pr.same (mk_upd (by assumption)) ?hq; (case hq => walk_at "hpPMo"))
  | (refine' Pr.same (show Same (delH _ _) (delH _ _) by assumption) ?hq; (case hq => walk_at "hpPMo"))
  | (refine' Pr.same (mk_mono (by assumption)) ?hq; (case hq => walk_at "hpPMo"))
  | fail)
local macro_rules | `(tactic| walk_at "hpPM") => `(tactic| with_reducible first
  | walk_at "hpPMo"
  | (refine' Pr.of ?hq; (case hq => walk_at "hpM"))
  | fail)
local macro_rules | `(tactic| walk_at "hpP") => `(tactic| with_reducible first
  | walk_at "hpPo"
  | (refine' Pr.same mk_same ?hq; (case hq => walk_at "hpPMo"))
  | (refine' Pr.of ?hq; (case hq => walk_at "hpH"))
  | fail)
local macro_rules | `(tactic| walk_at "hpDo") => `(tactic| with_reducible first
  | assumption
  | exact Dq.int _ | exact Dq.bl _ | exact Dq.str _ | exact Dq.non
  | (refine' Dq.same (same_new (by assumption)) ?hq; (case hq => walk_at "hpDo"))
  | (refine' Dq.same (by assumption) ?hq; (case hq => walk_at "hpDo"))
  | fail)
local macro_rules | `(tactic| walk_at "hpDMo") => `(tactic| with_reducible first
  | assumption
  | exact Dq.int _ | exact Dq.bl _ | exact Dq.str _ | exact Dq.non
  | (refine' Dq.same (mk_upd (by assumption)) ?hq; (case hq => walk_at "hpDMo"))
  | (refine' Dq.same (show Same (delH _ _) (delH _ _) by assumption) ?hq; (case hq => walk_at "hpDMo"))
  | (refine' Dq.same (mk_mono (by assumption)) ?hq; (case hq => walk_at "hpDMo"))
  | fail)
local macro_rules | `(tactic| walk_at "hpDM") => `(tactic| with_reducible first
  | walk_at "hpDMo"
  | fail)
local macro_rules | `(tactic| walk_at "hpD") => `(tactic| with_reducible first
  | walk_at "hpDo"
  | (refine' Dq.same mk_same ?hq; (case hq => walk_at "hpDMo"))
  | fail)
local macro_rules | `(tactic| walk_at "call") => `(tactic| first
  | ((with_reducible refine' sp_draw ?_ ?h ?side1 ?side2); (case h => walk_at "hpB"); intro idraw Hd' hi0 hi1 sd' bd')
  | fail)

local macro_rules | `(tactic| walk_at "hpPoo") => `(tactic| with_reducible first
  | assumption
  | (refine' Pool.same (same_new (by assumption)) ?hq; (case hq => walk_at "hpPoo"))
  | (refine' Pool.same (by assumption) ?hq; (case hq => walk_at "hpPoo"))
  | fail)
local macro_rules | `(tactic| walk_at "hpPoM") => `(tactic| with_reducible first
  | assumption
  | (refine' Pool.same (mk_upd (by assumption)) ?hq; (case hq => walk_at "hpPoM"))
  | (refine' Pool.same (show Same (delH _ _) (delH _ _) by assumption) ?hq; (case hq => walk_at "hpPoM"))
  | (refine' Pool.same (mk_mono (by assumption)) ?hq; (case hq => walk_at "hpPoM"))
  | fail)
local macro_rules | `(tactic| walk_at "hpPo") => `(tactic| with_reducible first
  | walk_at "hpPoo"
  | (refine' Pool.same mk_same ?hq; (case hq => walk_at "hpPoM"))
  | fail)

local macro_rules | `(tactic| walk_at "call") => `(tactic| first
  | ((with_reducible refine' sp_draw ?_ ?h ?side1 ?side2); (case h => walk_at "hpB"); intro idraw Hd' hi0 hi1 sd' bd')
  | ((with_reducible refine' sp_ofP ?_ ?h ?hp ?B ?side1 ?side2); (case h => walk_at "hpM"); (case hp => walk_at "hpPoM"); (case B => walk_at "hpB"); intro tof nof dof Hof hof hbof sof bof)
  | ((with_reducible refine' sp_handed ?_ ?h ?B); (case h => walk_at "hpM"); (case B => walk_at "hpB"); intro xhd Hhd hnd shd bhd)
  | ((with_reducible refine' sp_belowK ?_ ?h1 ?h2 ?s1 ?s2); (case h1 => walk_at "hpH"); (case h2 => walk_at "hpH"))
  | ((with_reducible refine' sp_compareK ?_ ?h1 ?h2 ?s1 ?s2); (case h1 => walk_at "hpN"); (case h2 => walk_at "hpN"); intro Hcm scm)
  | ((with_reducible refine' sp_likeI ?_ ?side); intro Hlk slk)
  | ((with_reducible refine' sp_likeT ?_ ?h1 ?h2); (case h1 => walk_at "hpH"); (case h2 => walk_at "hpH"); intro Hlk slk)
  | ((with_reducible refine' sp_likeS ?_); intro Hlk slk)
  | ((with_reducible refine' sp_overN ?_ ?h ?B); (case h => walk_at "hpM"); (case B => walk_at "hpB"); intro Hon son bon)
  | ((with_reducible refine' sp_stepK ?_ ?h1 ?h2 ?B ?s1 ?s2 ?s3 ?s4 ?s5); (case h1 => walk_at "hpM"); (case h2 => walk_at "hpM"); (case B => walk_at "hpB"); intro lst t1st t2st xst yst Hst hls ht1 ht2 hlo sst bst)
  | ((with_reducible refine' sp_ltextP ?_ ?h ?side1 ?side2); (case h => walk_at "hpH"))
  | ((with_reducible refine' sp_textK ?_ ?h ?side); (case h => walk_at "hpN"); intro Htx stx)
  | ((with_reducible refine' sp_exactS ?_ ?side); intro tex Hex sex hex)
  | ((with_reducible refine' sp_numT ?_ ?h ?side); (case h => walk_at "hpH"))
  | ((with_reducible refine' g_catK ?_ ?h1 ?h2 ?side); (case h1 => walk_at "hpH"); (case h2 => walk_at "hpH"); intro pca npca)
  | (with_reducible refine g_isB ?_)
  | (with_reducible refine g_par3 ?_)
  | (with_reducible refine g_par3E ?_)
  | fail)
section
variable {P : Program} {w : World} {K : Fg} {mg : Str → Option Value} {base : Heap} {f f1 f2 f3 f4 f5 f6 f7 f8 f9 f10 f11 f12 : Addr} {fd : FuncData}
theorem ok_l_runs (F : Fun K "_law_runs" "_law_runs" s_l_runs f fd) (T : Blt mg) (D_l_draw : Df P w K mg base 1 "_law_draw" f1 ["_law_bag_here", "_law_many"] spDraw) (D_l_of : Df P w K mg base 2 "_law_of" f2 ["_law_bag_here", "_law_things"] spOf) (D_l_handed : Df P w K mg base 2 "_law_handed" f3 ["_law_bag_here", "_law_one"] spHanded)
    (D_l_under : Df P w K mg base 1 "_law_under" f4 ["_law_one", "_law_two"] spBelow) (D_compare : Df P w K mg base 2 "compare" f5 ["a", "b"] spCompare) (D_l_like : Df P w K mg base 5 "_law_like" f6 ["_law_found", "_law_due"] (spLike 4)) (D_l_over_none : Df P w K mg base 5 "_law_over_none" f7 ["_law_bag_here", "_law_one"] spOverNone)
    (D_l_step : Df P w K mg base 3 "_law_step" f8 ["_law_bag_here", "_law_way", "_law_one", "_law_two"] spStep) (D_number_text : Df P w K mg base 2 "number_text" f9 ["a"] spText) (D_l_text : Df P w K mg base 1 "_law_text" f10 ["_law_one"] spLtext) (D_exact : Df P w K mg base 3 "exact" f11 ["value"] spExact)
    (D_is_number : Df P w K mg base 3 "is_number" f12 ["value"] spNum) : FnOk P w K mg base CX0 6 f fd ["_law_bag_here", "_law_pool"] spRuns := by
  obtain ⟨_, G_l_draw, B_l_draw⟩ := D_l_draw.ok
  obtain ⟨_, G_l_of, B_l_of⟩ := D_l_of.ok
  obtain ⟨_, G_l_handed, B_l_handed⟩ := D_l_handed.ok
  obtain ⟨_, G_l_under, B_l_under⟩ := D_l_under.ok
  obtain ⟨_, G_compare, B_compare⟩ := D_compare.ok
  obtain ⟨_, G_l_like, B_l_like⟩ := D_l_like.ok
  obtain ⟨_, G_l_over_none, B_l_over_none⟩ := D_l_over_none.ok
  obtain ⟨_, G_l_step, B_l_step⟩ := D_l_step.ok
  obtain ⟨_, G_number_text, B_number_text⟩ := D_number_text.ok
  obtain ⟨_, G_l_text, B_l_text⟩ := D_l_text.ok
  obtain ⟨_, G_exact, B_exact⟩ := D_exact.ok
  obtain ⟨_, G_is_number, B_is_number⟩ := D_is_number.ok
  refine F.ok sc_l_runs (fun vs H Q E h => ?_) (fun cdv A outer s H vs Q E hr h => ?_)
  · obtain ⟨b, c, l, xs, rfl, _⟩ := h
    rfl
  · obtain ⟨b, c, l, xs, rfl, B, hl, hp, hx0, hx1, k⟩ := h
    refine ⟨_, (pss_cons (ps_for PassesOwn.never rfl (pi_range1 (by rfl) T.n_range (pa_cons pe_int pa_nil)) (pg_name (i := 2) sc_l_runs.nd rfl (.inl rfl))
      (pss_cons (ps_par3 (i := 3) (j := 4) (l := 5) rfl sc_l_runs.nd rfl rfl rfl (by decide) (by decide) (by decide) rfl rfl rfl (pa_cons (pe_call G_l_of (hr.mono (by decide)) (by rfl) D_l_of.g D_l_of.kp B_l_of .nil pass0 (pa_cons (pv 0) (pa_cons (pv 1) pa_nil))) (pa_cons (pe_call G_l_of (hr.mono (by decide)) (by rfl) D_l_of.g D_l_of.kp B_l_of .nil pass0 (pa_cons (pv 0) (pa_cons (pv 1) pa_nil))) (pa_cons (pe_call G_l_draw (hr.mono (by decide)) (by rfl) D_l_draw.g D_l_draw.kp B_l_draw .nil pass0 (pa_cons (pv 0) (pa_cons pe_int pa_nil))) pa_nil))) rfl)
      (pss_cons (ps_set (i := 6) sc_l_runs.nd rfl (.inl rfl) (pe_op op_sub (pe_callTy cg_int (by rfl) T.n_int (by decide +kernel) (pa_cons (pe_call G_l_under (hr.mono (by decide)) (by rfl) D_l_under.g D_l_under.kp B_l_under .nil pass0 (pa_cons (pv 4) (pa_cons (pv 3) pa_nil))) pa_nil)) (pe_callTy cg_int (by rfl) T.n_int (by decide +kernel) (pa_cons (pe_call G_l_under (hr.mono (by decide)) (by rfl) D_l_under.g D_l_under.kp B_l_under .nil pass0 (pa_cons (pv 3) (pa_cons (pv 4) pa_nil))) pa_nil))))
      (pss_cons (ps_if (pt_not (pt_val (pe_call G_l_like (hr.mono (by decide)) (by rfl) D_l_like.g D_l_like.kp B_l_like .nil pass0 (pa_cons (pe_call G_compare (hr.mono (by decide)) (by rfl) D_compare.g D_compare.kp B_compare .nil pass0 (pa_cons (pe_call G_l_handed (hr.mono (by decide)) (by rfl) D_l_handed.g D_l_handed.kp B_l_handed .nil pass0 (pa_cons (pv 0) (pa_cons (pv 3) pa_nil))) (pa_cons (pe_call G_l_handed (hr.mono (by decide)) (by rfl) D_l_handed.g D_l_handed.kp B_l_handed .nil pass0 (pa_cons (pv 0) (pa_cons (pv 4) pa_nil))) pa_nil))) (pa_cons (pv 6) pa_nil)))))
      (pss_one (ps_ret pe_bl)) pss_nil)
      (pss_one (ps_if (PW.pt (pw_and (pt_cmpR op_eq (pv 5) pe_int (nomark _)) (pw_and1 (pt_cmpR op_eq (pe_ix (ix_seqK K) (pv 4) pe_int (fun _ _ => rfl)) pe_int (nomark _)))))
      (pss_one (ps_if (pt_not (pt_val (pe_call G_l_over_none (hr.mono (by decide)) (by rfl) D_l_over_none.g D_l_over_none.kp B_l_over_none .nil pass0 (pa_cons (pv 0) (pa_cons (pv 3) pa_nil)))))
      (pss_one (ps_ret pe_bl)) pss_nil)) (pss_cons (ps_set (i := 7) sc_l_runs.nd rfl (.inl rfl) (pe_call G_l_step (hr.mono (by decide)) (by rfl) D_l_step.g D_l_step.kp B_l_step .nil pass0 (pa_cons (pv 0) (pa_cons (pv 5) (pa_cons (pv 3) (pa_cons (pv 4) pa_nil))))))
      (pss_cons (ps_if (pt_not (pt_val (pe_call G_l_like (hr.mono (by decide)) (by rfl) D_l_like.g D_l_like.kp B_l_like .nil pass0 (pa_cons (pe_ix (ix_seqK K) (pv 7) pe_int (fun _ _ => rfl)) (pa_cons (pe_ix (ix_seqK K) (pv 7) pe_int (fun _ _ => rfl)) pa_nil)))))
      (pss_one (ps_ret pe_bl)) pss_nil)
      (pss_one (ps_if (PW.pt (pw_and (pt_cmpR op_lt (pe_callB cg_abs (by rfl) T.n_abs (by decide +kernel) (pa_cons (pe_ix (ix_seqK K) (pe_ix (ix_seqK K) (pv 7) pe_int (fun _ _ => rfl)) pe_int (fun _ _ => rfl)) pa_nil)) (pe_op op_pow pe_int pe_int) (nomark _)) (pw_and1 (pt_cmpR op_lt (pe_ix (ix_seqK K) (pe_ix (ix_seqK K) (pv 7) pe_int (fun _ _ => rfl)) pe_int (fun _ _ => rfl)) (pe_op op_pow pe_int pe_int) (nomark _)))))
      (pss_one (ps_set (i := 1) sc_l_runs.nd rfl (.inr rfl) (pe_op op_cat (pv 1) (pe_lst (pa_cons (pe_ix (ix_seqK K) (pv 7) pe_int (fun _ _ => rfl)) pa_nil))))) pss_nil))))))))))
      (pss_cons (ps_setLc (i := 8) (own := [("_law_k", 2)]) (g := gName 2) (tt := tYes) rfl sc_l_runs.nd rfl rfl (sw_true rfl rfl rfl (by decide +kernel)) (pi_range1 (by rfl) T.n_range (pa_cons pe_int pa_nil)) (blkOk_by (N := ["_law_bag_here", "_law_pool", "_law_k", "_law_one", "_law_two", "_law_way", "_law_due", "_law_told", "_law_some"]) (sc := defScope s_l_runs) (by decide +kernel)) (fun _ _ _ _ _ => pg_name (i := 2) sc_l_runs.nd rfl (.inl rfl)) (fun _ _ _ _ _ => pts_nil) (fun _ _ _ _ _ => (pe_call G_l_of (hr.mono (by decide)) (by rfl) D_l_of.g D_l_of.kp B_l_of .nil pass0 (pa_cons (pv 0) (pa_cons (pv 1) pa_nil)))))
      (pss_one (ps_ret (pe_and (pe_callB (cr_allK K rfl) (by rfl) T.n_all (by decide +kernel) (pa_cons (pe_lc (own := [("_law_one", 3)]) (g := gName 3) (tt := tYes) rfl sc_l_runs.nd (pi_list (pv 8)) (blkOk_by (N := ["_law_bag_here", "_law_pool", "_law_k", "_law_one", "_law_two", "_law_way", "_law_due", "_law_told", "_law_some"]) (sc := defScope s_l_runs) (by decide +kernel)) (fun _ _ _ _ _ => pg_name (i := 3) sc_l_runs.nd rfl (.inl rfl)) (fun _ _ _ _ _ => pts_nil) (fun _ _ _ _ _ => (pe_call G_l_like (hr.mono (by decide)) (by rfl) D_l_like.g D_l_like.kp B_l_like .nil pass0 (pa_cons (pe_call G_number_text (hr.mono (by decide)) (by rfl) D_number_text.g D_number_text.kp B_number_text .nil pass0 (pa_cons (pe_call G_l_handed (hr.mono (by decide)) (by rfl) D_l_handed.g D_l_handed.kp B_l_handed .nil pass0 (pa_cons (pv 0) (pa_cons (pv 3) pa_nil))) pa_nil)) (pa_cons (pe_call G_l_text (hr.mono (by decide)) (by rfl) D_l_text.g D_l_text.kp B_l_text .nil pass0 (pa_cons (pv 3) pa_nil)) pa_nil))))) pa_nil)) (pe_one (pe_callB (cr_allK K rfl) (by rfl) T.n_all (by decide +kernel) (pa_cons (pe_lc (own := [("_law_one", 3)]) (g := gName 3) (tt := tYes) rfl sc_l_runs.nd (pi_list (pv 8)) (blkOk_by (N := ["_law_bag_here", "_law_pool", "_law_k", "_law_one", "_law_two", "_law_way", "_law_due", "_law_told", "_law_some"]) (sc := defScope s_l_runs) (by decide +kernel)) (fun _ _ _ _ _ => pg_name (i := 3) sc_l_runs.nd rfl (.inl rfl)) (fun _ _ _ _ _ => pts_nil) (fun _ _ _ _ _ => (pe_and (pe_call G_l_like (hr.mono (by decide)) (by rfl) D_l_like.g D_l_like.kp B_l_like .nil pass0 (pa_cons (pe_call G_exact (hr.mono (by decide)) (by rfl) D_exact.g D_exact.kp B_exact .nil pass0 (pa_cons (pe_call G_number_text (hr.mono (by decide)) (by rfl) D_number_text.g D_number_text.kp B_number_text .nil pass0 (pa_cons (pv 3) pa_nil)) pa_nil)) (pa_cons (pv 3) pa_nil))) (pe_one (pe_cmpR op_isBl (pe_call G_is_number (hr.mono (by decide)) (by rfl) D_is_number.g D_is_number.kp B_is_number .nil pass0 (pa_cons (pv 3) pa_nil)) pe_bl (nomark _)))))) pa_nil)))))))), ?_⟩
    walk_at "go"
    all_goals try decide
    refine for_range (lo := 0) (n := 14) (fun i σ H' => ∃ l' ys v2 v3 v4 v5 v6 v7 v8, σ = [some (.ref b), some (.ref l'), v2, v3, v4, v5, v6, v7, v8] ∧ Bag H' b c ∧ delH H' b l' = some (.lst ys) ∧ Pool (delH H' b) ys ∧ 0 < ys.length ∧ ys.length ≤ 100 + i ∧ Same (delH H b) (delH H' b))
      ⟨l, xs, none, none, none, none, none, none, none, rfl, B, hl, hp, hx0, hx1, Same.refl _⟩ (fun i σ H1 hi h => ?_) (fun σ H1 h => ?_)
    · obtain ⟨l', ys, v2, v3, v4, v5, v6, v7, v8, rfl, B1, hl1, hp1, hy0, hy1, s1⟩ := h
      have e50 : (10 : Int) ^ Int.toNat 50 = 10 ^ 50 := rfl
      walk_at "gos"
      all_goals first
        | exact cmp_due _ _
        | assumption
        | exact Big.sz (by assumption)
        | (exact ⟨by decide, by decide, by decide⟩)
        | (intro z w; omega)
        | omega
        | (rw [List.length_singleton]; omega)
        | exact ⟨l', ys, _, _, _, _, _, _, _, rfl, by walk_at "hpB", by walk_at "hpM", by walk_at "hpPoM", hy0, by omega, by walk_at "hpSM"⟩
        | skip
      all_goals
        rename_i lst t1 t2 x y Hs hls ht1 ht2 hlo ss bs Hk sk c1 c2 tn ntn pc npc
        have y0 : 0 < y := hlo.1
        have hq : BigQ (x, y) := ⟨hlo, by show x.natAbs < _; omega, by show y.natAbs < _; omega⟩
        exact ⟨_, ys ++ [.ref t2], _, _, _, _, _, _, _, rfl, by walk_at "hpB", by walk_at "hpM", Pool.snoc (by walk_at "hpPoM") (by walk_at "hpM") hq, by rw [List.length_append]; omega, by rw [List.length_append, List.length_singleton]; omega, by walk_at "hpSM"⟩
    · obtain ⟨l', ys, v2, v3, v4, v5, v6, v7, v8, rfl, B1, hl1, hp1, hy0, hy1, s1⟩ := h
      walk_at "go"
      all_goals try decide
      intro D hD
      have hDb : D ≠ b := (B1.free hD).1
      refine lcB (walk_range (lo := 0) (n := Int.toNat 4)) hD B1 (fun H k y => Drw b D H y) (by decide) (fun _ _ _ => trivial) (fun _ _ _ _ h f => f.mono h) (fun i x H2 H2' hi s2 B2 hD2 y' Kt kt => ?_) (fun H2 zs s2 B2 hZ hzl hzs => ?_) gm_name
      · obtain ⟨rfl, rfl⟩ := y'
        refine g_wipe rfl ?_
        walk_at "go"
        all_goals first
          | assumption
          | omega
          | skip
        rename_i t n d H3 ht hb s3 b3
        obtain ⟨acc, hA⟩ := hD2
        refine kt _ _ s3 b3 ⟨t, n, d, rfl, ?_, ht, hb⟩
        have hA3 := s3 _ _ (mk_at hA hDb)
        exact (ne_of hA3 ht (by intro z; cases z)).symm
      · have hzp := drw_pool hzs
        have hZb := mk_at hZ hDb
        walk_at "go"
        intro D2 hD2
        have hD2b : D2 ≠ b := (B2.free hD2).1
        refine lcB (walk_list (K := K) (a := D) (xs := zs)) hD2 B2 (fun H k y => y = .bl true) (by rw [hzl]; decide) (fun H3 s3 B3 => SqL.of (mk_same _ _ (s3 _ _ hZb))) (fun _ _ _ _ h f => f) (fun i x H3 H3' hi s3 B3 hD3 y' Kt kt => ?_) (fun H3 ws s3 B3 hW hwl hws => ?_) gm_name
        · obtain ⟨rfl, hx⟩ := y'
          obtain ⟨t, n, d, rfl, ht, hb⟩ := hzp x (List.mem_of_getElem? hx)
          have hb : Big (n, d) := hb
          have ht3 := s3 _ _ ht
          have n64 : n.natAbs < 10 ^ 64 := Nat.lt_of_lt_of_le hb.2.1 (by decide)
          have d64 : d.natAbs < 10 ^ 64 := Nat.lt_of_lt_of_le hb.2.2 (by decide)
          refine g_wipe rfl ?_
          walk_at "go"
          all_goals first
            | assumption
            | skip
          refine kt _ _ ?_ ?_ rfl
          · walk_at "hpSM"
          · walk_at "hpB"
        · rw [all_true hwl hws] at hW
          walk_at "go"
          rw [rep_all]
          refine iteT ?_
          walk_at "go"
          intro D3 hD3
          have hD3b : D3 ≠ b := (B3.free hD3).1
          have hzp3 := hzp.same s3
          refine lcB (walk_list (K := K) (a := D) (xs := zs)) hD3 B3 (fun H k y => y = .bl true) (by rw [hzl]; decide) (fun H4 s4 B4 => SqL.of (mk_same _ _ (s4 _ _ (s3 _ _ hZb)))) (fun _ _ _ _ h f => f) (fun i x H4 H4' hi s4 B4 hD4 y' Kt kt => ?_) (fun H4 us s4 B4 hU hul hus => ?_) gm_name
          · obtain ⟨rfl, hx⟩ := y'
            obtain ⟨t, n, d, rfl, ht, hb⟩ := hzp3 x (List.mem_of_getElem? hx)
            have hb : Big (n, d) := hb
            have hlo : Lo (n, d) := hb.1
            have ht4 := s4 _ _ ht
            have hN4 := NmP ht4
            refine g_wipe rfl ?_
            walk_at "go"
            all_goals first
              | assumption
              | skip
            refine kt _ _ ?_ ?_ rfl
            · walk_at "hpSM"
            · walk_at "hpB"
          · rw [all_true hul hus] at hU
            walk_at "go"
            rw [rep_all]
            exact k _ (((s1.trans s2).trans s3).trans s4) B4
end
end Ko


namespace Ko
open PySem L2 PySem.Spec PyProof.Rows Xm
def spLists : Sp := fun vs H Q _ => ∃ (b c l : Addr) (xs : List V), vs = [.ref b, .ref l] ∧ Bag H b c ∧ delH H b l = some (.lst xs) ∧ Pool (delH H b) xs ∧ 0 < xs.length ∧ xs.length ≤ 500 ∧ ∀ H', Same (delH H b) (delH H' b) → Bag H' b c → Q (.bl true) H'
def spOrd2 (K : Fg) : Sp := fun vs H Q E => spOrder K true vs H Q E ∨ spOrder K false vs H Q E
/-- handed over: a number, beside D -/
def Hnd (b D : Addr) (H : Hp) (y : V) (q : Pq) : Prop := (∃ t, y = .ref t ∧ t ≠ D ∧ delH H b t = some (.tup [.int q.1, .int q.2])) ∨ (y = .int q.1 ∧ q.2 = 1)
theorem Hnd.mono {b D : Addr} {H H' : Hp} {y : V} {q : Pq} (h : ButB b D H H') (f : Hnd b D H y q) : Hnd b D H' y q := by
  rcases f with ⟨t, e, ne, ht⟩ | f
  · exact .inl ⟨t, e, ne, h _ _ ne ht⟩
  · exact .inr f
theorem Hnd.nm {b D : Addr} {H : Hp} {y : V} {q : Pq} (f : Hnd b D H y q) : Nm (delH H b) y q := by
  rcases f with ⟨t, e, ne, ht⟩ | f
  · exact .inl ⟨t, e, ht⟩
  · exact .inr f
theorem ins_len (l : List Pq) (q : Pq) : (ins l q).length ≤ l.length + 1 := by
  unfold ins
  split
  · omega
  · rw [List.length_insertIdx]
    split <;> omega
theorem fold_len : ∀ (l acc : List Pq), (l.foldl ins acc).length ≤ acc.length + l.length
  | [], acc => by simp
  | q :: l, acc => by
    have h1 := fold_len l (ins acc q)
    have h2 := ins_len acc q
    rw [List.foldl_cons, List.length_cons]
    omega
theorem ord_len (l : List Pq) : (ord l).length ≤ l.length := by
  have := fold_len l []
  rw [List.length_nil, Nat.zero_add] at this
  exact this
theorem nms_same {H H' : Hp} {xs : List V} {qs : List Pq} (s : Same H H') (h : Paired (Nm H) xs qs) : Paired (Nm H') xs qs := paired_mono (fun _ _ z => z.same s) h
theorem prs_same {H H' : Hp} {xs : List V} {qs : List Pq} (s : Same H H') (h : Paired (Pr H) xs qs) : Paired (Pr H') xs qs := paired_mono (fun _ _ z => Pr.same s z) h
theorem drw_pick {b D : Addr} {H : Hp} {zs : List V} (h : ∀ (k : Nat) v, zs[k]? = some v → Drw b D H v) : ∃ qs : List Pq, Paired (Pr (delH H b)) zs qs ∧ (∀ q ∈ qs, Big q) := by
  obtain ⟨qs, hl, hq⟩ := pick (ys := zs) (G := fun _ v (q : Pq) => Pr (delH H b) v q ∧ Big q) fun k v hv => by
    obtain ⟨t, n, d, e, _, ht, hb⟩ := h k v hv
    exact ⟨(n, d), ⟨t, e, ht⟩, hb⟩
  refine ⟨qs, paired_of hl fun i x y e1 e2 => (hq i x y e1 e2).1, fun q hm => ?_⟩
  obtain ⟨k, hk⟩ := List.mem_iff_getElem?.mp hm
  have lt : k < qs.length := (List.getElem?_eq_some_iff.mp hk).1
  exact (hq k _ q (List.getElem?_eq_getElem (by omega)) hk).2
theorem hnd_pick {b D : Addr} {H : Hp} {hs : List V} {qs : List Pq} (hl : hs.length = qs.length) (h : ∀ (k : Nat) v, hs[k]? = some v → ∃ q, qs[k]? = some q ∧ Hnd b D H v q) : Paired (Nm (delH H b)) hs qs :=
  paired_of hl.symm fun i x y e1 e2 => by
    obtain ⟨q, hq, f⟩ := h i x e1
    rw [e2] at hq
    cases hq
    exact f.nm
theorem paired_back {α β : Type} {F : α → β → Prop} : ∀ {l : List α} {k : List β} {i : Nat} {y : β}, Paired F l k → k[i]? = some y → ∃ x, l[i]? = some x ∧ F x y
  | _, _, _, _, .nil, h => by simp at h
  | _, _, 0, _, .cons q r, h => by
    simp only [List.getElem?_cons_zero] at h ⊢
    cases h
    exact ⟨_, rfl, q⟩
  | _, _, i + 1, _, .cons q r, h => by
    simp only [List.getElem?_cons_succ] at h ⊢
    exact paired_back r h
theorem atI_last {α : Type} {xs : List α} {v : α} (h : xs.getLast? = some v) : atI xs (-1) = some v := by
  rw [List.getLast?_eq_getElem?] at h
  have hl : 0 < xs.length := by
    cases xs with
    | nil => simp at h
    | cons _ _ => simp
  have e : ixN xs.length (-1) = some (xs.length - 1) := by
    unfold ixN
    simp
    omega
  unfold atI
  rw [e]
  exact h
/-- lists of numbers are data -/
theorem prs_dq {H : Hp} {xs : List V} {qs : List Pq} (h : Paired (Pr H) xs qs) : DqAll H xs (qs.map Dt.pq) := by
  induction h with
  | nil => exact .nil
  | cons h _ ih => exact .cons h.dq ih
theorem pqs_ok {qs : List Pq} {n : Nat} : ∀ x ∈ qs.map Dt.pq, Dt.ok (n + 1) x := fun x hx => by
  obtain ⟨q, _, rfl⟩ := List.mem_map.mp hx
  simp [Dt.pq, Dt.ok]
theorem nms_dq {H : Hp} {xs : List V} {qs : List Pq} (h : Paired (Nm H) xs qs) : ∃ ds, DqAll H xs ds ∧ ds.length = qs.length ∧ ∀ x ∈ ds, Dt.ok 3 x := by
  induction h with
  | nil => exact ⟨[], .nil, rfl, fun x hx => by cases hx⟩
  | @cons v q _ _ h _ ih =>
    obtain ⟨ds, h1, h2, h3⟩ := ih
    rcases h with h | ⟨rfl, _⟩
    · refine ⟨Dt.pq q :: ds, .cons h.dq h1, by simp [h2], fun x hx => ?_⟩
      rcases List.mem_cons.mp hx with rfl | hx
      · simp [Dt.pq, Dt.ok]
      · exact h3 x hx
    · refine ⟨.int q.1 :: ds, .cons (.int _) h1, by simp [h2], fun x hx => ?_⟩
      rcases List.mem_cons.mp hx with rfl | hx
      · trivial
      · exact h3 x hx

local macro_rules | `(tactic| walk_at "hpS") => `(tactic| with_reducible first
  | exact Same.refl _
  | assumption
  | (refine' Same.trans ?hq (same_new (by assumption)); (case hq => walk_at "hpS"))
  | (refine' Same.trans ?hq (by assumption); (case hq => walk_at "hpS"))
  | fail)
local macro_rules | `(tactic| walk_at "hpH") => `(tactic| with_reducible first
  | assumption
  | exact upd_same
  | (refine' same_at (same_new (by assumption)) ?hq; (case hq => walk_at "hpH"))
  | (refine' same_at (by assumption) ?hq; (case hq => walk_at "hpH"))
  | fail)
local macro_rules | `(tactic| walk_at "hpTo") => `(tactic| with_reducible first
  | assumption
  | (refine' sq_t (same_new (by assumption)) ?hq; (case hq => walk_at "hpTo"))
  | (refine' sq_t (by assumption) ?hq; (case hq => walk_at "hpTo"))
  | fail)
local macro_rules | `(tactic| walk_at "hpT") => `(tactic| with_reducible first
  | (refine' SqT.of ?hq; (case hq => walk_at "hpH"))
  | walk_at "hpTo"
  | fail)
local macro_rules | `(tactic| walk_at "hpLo") => `(tactic| with_reducible first
  | assumption
  | (refine' sq_l (same_new (by assumption)) ?hq; (case hq => walk_at "hpLo"))
  | (refine' sq_l (by assumption) ?hq; (case hq => walk_at "hpLo"))
  | fail)
local macro_rules | `(tactic| walk_at "hpL") => `(tactic| with_reducible first
  | (refine' SqL.of ?hq; (case hq => walk_at "hpH"))
  | walk_at "hpLo"
  | fail)
local macro_rules | `(tactic| walk_at "kit") => `(tactic| with_reducible first
  | exact kit_int_bool | exact kit_int_int | exact kit_int_tuple | exact kit_int_list | exact kit_int_str
  | exact kit_tuple_tuple | exact kit_tuple_int | exact kit_tuple_bool | exact kit_tuple_list | exact kit_tuple_str
  | exact kit_bool_bool | exact kit_bool_int | exact kit_bool_tuple | exact kit_bool_list | exact kit_bool_str
  | exact kit_str_str | exact kit_str_int | exact kit_str_bool | exact kit_str_tuple | exact kit_str_list
  | exact kit_NoneType_int | exact kit_NoneType_bool | exact kit_NoneType_tuple | exact kit_NoneType_list | exact kit_NoneType_str
  | exact kit_list_list | exact kit_list_tuple | exact kit_list_int | exact kit_list_bool | exact kit_list_str
  | fail)
local macro_rules | `(tactic| walk_at "call") => `(tactic| fail)
local macro_rules | `(tactic| walk_at "s0") => `(tactic| with_reducible first
  | refine g_seq ?_ | refine g_asg ?_ | refine g_name ?_ | refine g_ifS ?_ | refine g_ret ?_ | refine g_retN ?_ | refine g_next ?_
  | refine g_par ?_ | refine g_parE ?_ | refine g_drop ?_
  | refine g_c ?_ | refine g_op ?_ | refine g_un ?_ | refine g_cb ?_ | refine g_call ?_ | refine g_nil ?_ | refine g_cons ?_ | refine g_tup ?_ | refine g_lst ?_
  | refine g_test ?_ | refine g_B ?_ | refine g_blF ?_ | refine g_and ?_ | refine g_or ?_ | refine g_not ?_ | refine g_andV ?_ | refine g_orV ?_ | refine g_notV ?_ | refine g_if ?_
  | refine iteT ?_ | refine iteF ?_
  | refine g_chain ?_ | refine g_sl ?_ | refine g_noPart ?_ | refine g_part ?_ | refine g_partI ?_ | refine g_slS ?_ ?side | refine g_M1 ?_ | refine g_M1s ?_ | refine g_starts ?_ | refine g_bm ?_ | refine g_bm0 ?_ | refine g_tyS ?_
  | refine g_Fs ?_ | refine g_JsN ?_ | refine g_JsC ?_ | refine g_JsE ?_ ?side | refine g_fmt ?_ | refine g_fmtI ?_ ?side | refine g_fmtS ?_ ?side | refine g_iList ?_ | refine g_iTup ?_ | refine g_iStr ?_ | refine g_iStrE ?_ | refine g_iRng1 ?_ | refine g_iRng1E ?_ ?side1 ?side2 | refine g_yes ?_ | refine g_ckw ?_ | refine g_dget ?_ | refine g_dictZip ?_ | refine g_gCons ?_ | refine g_gNil ?_ | refine g_revL ?_ | refine g_for ?_ | refine g_lc ?_ | refine g_addS ?_ ?side | refine g_str ?_ ?side | refine g_lenS ?_ ?side
  | refine g_rI0 ?_ | refine g_rI ?_ ?side | refine g_rU ?_ | refine g_abs ?_ | refine g_int ?_ | refine g_intB ?_ | refine g_gcd ?_ | refine g_inS ?_ | refine g_isN0 ?_ | refine g_notN0 ?_
  | fail)
local macro_rules | `(tactic| walk_at "s1") => `(tactic| first
  | ((with_reducible refine' g_var ?h ?_); (case h => exact rfl))
  | ((with_reducible refine' g_new ?h ?_); (case h => exact (by simp only [List.length_cons, List.length_nil]; decide)); intro tnew htnew)
  | ((with_reducible refine' iteDT ?h ?_); (case h => first | exact rfl | assumption))
  | ((with_reducible refine' iteNT ?h ?_); (case h => first | exact rfl | assumption))
  | ((with_reducible refine' iteDF ?h ?_); (case h => first | assumption | (intro z; cases z)))
  | ((with_reducible refine' iteNF ?h ?_); (case h => first | assumption | (intro z; cases z)))
  | ((with_reducible refine' g_eq ?_ ?h); (case h => exact rfl))
  | ((with_reducible refine' g_ne ?_ ?h); (case h => exact rfl))
  | ((with_reducible refine' g_ixT ?_ ?h ?e); (case h => walk_at "hpT"); (case e => first | exact rfl | exact atI_0 | exact atI_1))
  | ((with_reducible refine' g_ixL ?_ ?h ?e); (case h => walk_at "hpL"); (case e => first | exact rfl | exact atI_0 | exact atI_1))
  | ((with_reducible refine' g_isi_int ?_ ?h); (case h => walk_at "kit"))
  | ((with_reducible refine' g_isi_str ?_ ?h); (case h => walk_at "kit"))
  | ((with_reducible refine' g_isi_bl ?_ ?h); (case h => walk_at "kit"))
  | ((with_reducible refine' g_isi_non ?_ ?h); (case h => walk_at "kit"))
  | ((with_reducible refine' g_isi_t ?_ ?t ?h); (case t => walk_at "hpT"); (case h => walk_at "kit"))
  | ((with_reducible refine' g_isi_l ?_ ?t ?h ?l); (case l => walk_at "hpH"); (case t => walk_at "hpL"); (case h => walk_at "kit"))
  | ((with_reducible refine' g_lenT ?_ ?h); (case h => walk_at "hpT"))
  | ((with_reducible refine' g_lenL ?_ ?h); (case h => walk_at "hpL"))
  | ((with_reducible refine' g_split ?_ ?h ?side); (case h => exact rfl); intro pnew hpnew)
  | ((with_reducible refine' g_slL ?h ?_); (case h => walk_at "hpL"); intro pnew hpnew)
  | ((with_reducible refine' g_iListE ?_ ?h); (case h => walk_at "hpL"))
  | ((with_reducible refine' g_iTupE ?_ ?h); (case h => walk_at "hpT"))
  | ((with_reducible refine' g_tyL ?_ ?h); (case h => walk_at "hpL"))
  | ((with_reducible refine' g_join ?_ ?h ?side); (case h => walk_at "hpL"))
  | ((with_reducible refine' g_append ?_ ?h ?side); (case h => walk_at "hpH"))
  | ((with_reducible refine' g_all ?_ ?h); (case h => walk_at "hpL"))
  | ((with_reducible refine' g_gTup ?_ ?h ?n); (case h => walk_at "hpT"); (case n => exact rfl))
  | ((with_reducible refine' g_revLE ?h ?_); (case h => walk_at "hpL"); intro pnew hpnew)
  | ((with_reducible refine' g_isN1 ?_ ?h); (case h => first | assumption | (intro z; cases z)))
  | ((with_reducible refine' g_notN1 ?_ ?h); (case h => first | assumption | (intro z; cases z)))
  | walk_at "call"
  | ((with_reducible refine' iteBT ?h ?_); (case h => first | assumption | exact rfl))
  | ((with_reducible refine' iteBF ?h ?_); (case h => first | assumption | exact rfl))
  | fail)
local macro_rules | `(tactic| walk_at "nrm") => `(tactic| simp only [Bool.not_true, Bool.not_false, decide_eq_true_eq, decide_true, decide_false, Bool.true_and, Bool.false_and, Bool.and_true, Bool.and_false, V.int.injEq, V.bl.injEq, V.str.injEq, List.length_cons, List.length_nil, Bool.not_eq_true', decide_eq_false_iff_not, Int.not_lt, Int.not_le, reduceCtorEq, not_false_eq_true, not_true_eq_false, Decidable.not_not] at *)
local macro_rules | `(tactic| walk_at "sp") => `(tactic| ((with_reducible refine ite2 (fun c => ?_) (fun c => ?_)) <;> (try simp only [decide_eq_true_eq, Bool.not_eq_true', decide_eq_false_iff_not, V.int.injEq, V.bl.injEq, V.str.injEq, Int.not_lt, Int.not_le, reduceCtorEq, Decidable.not_not, Bool.false_eq_true, Bool.true_eq_false] at c) <;> (try (exfalso; omega))))
local macro_rules | `(tactic| walk_at "s") => `(tactic| first | walk_at "s0" | walk_at "s1" | fail)
local macro_rules | `(tactic| walk_at "go") => `(tactic| (try dsimp only [cxK, cxK']); repeat' walk_at "s")
local macro_rules | `(tactic| walk_at "gos") => `(tactic| ((try dsimp only [cxK, cxK']); repeat' (first | walk_at "s" | walk_at "sp" | fail)))

local macro_rules | `(tactic| walk_at "hpNo") => `(tactic| with_reducible first
  | assumption
  | (refine' Nm.ofPr ?hq; (case hq => assumption))
  | (refine' Nm.same (same_new (by assumption)) ?hq; (case hq => walk_at "hpNo"))
  | (refine' Nm.same (by assumption) ?hq; (case hq => walk_at "hpNo"))
  | fail)
local macro_rules | `(tactic| walk_at "hpN") => `(tactic| with_reducible first
  | walk_at "hpNo"
  | (refine' Nm.of ?hq; (case hq => walk_at "hpH"))
  | fail)
local macro_rules | `(tactic| walk_at "hpPo") => `(tactic| with_reducible first
  | assumption
  | (refine' Pr.same (same_new (by assumption)) ?hq; (case hq => walk_at "hpPo"))
  | (refine' Pr.same (by assumption) ?hq; (case hq => walk_at "hpPo"))
  | fail)
local macro_rules | `(tactic| walk_at "hpP") => `(tactic| with_reducible first
  | walk_at "hpPo"
  | (refine' Pr.of ?hq; (case hq => walk_at "hpH"))
  | fail)
local macro_rules | `(tactic| walk_at "hpDo") => `(tactic| with_reducible first
  | assumption
  | exact Dq.int _ | exact Dq.bl _ | exact Dq.str _ | exact Dq.non
  | (refine' Dq.same (same_new (by assumption)) ?hq; (case hq => walk_at "hpDo"))
  | (refine' Dq.same (by assumption) ?hq; (case hq => walk_at "hpDo"))
  | fail)
local macro_rules | `(tactic| walk_at "hpD") => `(tactic| with_reducible first
  | walk_at "hpDo"
  | fail)

local macro_rules | `(tactic| walk_at "hpM") => `(tactic| with_reducible first
  | assumption
  | (refine' mk_new ?hn ?hB; (case hn => assumption); (case hB => walk_at "hpB"))
  | (refine' mk_tup ?hn ?hB; (case hn => assumption); (case hB => walk_at "hpB"))
  | (refine' same_at (mk_upd (by assumption)) ?hq; (case hq => walk_at "hpM"))
  | (refine' same_at (show Same (delH _ _) (delH _ _) by assumption) ?hq; (case hq => walk_at "hpM"))
  | (refine' same_at (mk_mono (by assumption)) ?hq; (case hq => walk_at "hpM"))
  | fail)
local macro_rules | `(tactic| walk_at "hpSM") => `(tactic| with_reducible first
  | exact Same.refl _
  | assumption
  | (refine' Same.trans ?hq (mk_upd (by assumption)); (case hq => walk_at "hpSM"))
  | (refine' Same.trans ?hq (show Same (delH _ _) (delH _ _) by assumption); (case hq => walk_at "hpSM"))
  | (refine' Same.trans ?hq (mk_mono (by assumption)); (case hq => walk_at "hpSM"))
  | fail)
local macro_rules | `(tactic| walk_at "hpB") => `(tactic| with_reducible first
  | assumption
  | (refine' bag_upd ?hq (by assumption); (case hq => walk_at "hpB"))
  | (refine' bag_same ?hq (by assumption); (case hq => walk_at "hpB"))
  | fail)
local macro_rules | `(tactic| walk_at "hpHo") => `(tactic| with_reducible first
  | assumption
  | exact upd_same
  | (refine' same_at (same_new (by assumption)) ?hq; (case hq => walk_at "hpHo"))
  | (refine' same_at (by assumption) ?hq; (case hq => walk_at "hpHo"))
  | fail)
local macro_rules | `(tactic| walk_at "hpH") => `(tactic| with_reducible first
  | walk_at "hpHo"
  | (refine' same_at mk_same ?hq; (case hq => walk_at "hpM"))
  | fail)
local macro_rules | `(tactic| walk_at "hpNo") => `(tactic| with_reducible first
  | assumption
  | (refine' Nm.ofPr ?hq; (case hq => assumption))
  | (refine' Nm.same (same_new (by assumption)) ?hq; (case hq => walk_at "hpNo"))
  | (refine' Nm.same (by assumption) ?hq; (case hq => walk_at "hpNo"))
  | fail)
local macro_rules | `(tactic| walk_at "hpNMo") => `(tactic| with_reducible first
  | assumption
  | (refine' Nm.ofPr ?hq; (case hq => assumption))
  | (refine' Nm.same (mk_upd (by assumption)) ?hq; (case hq => walk_at "hpNMo"))
  | (refine' Nm.same (show Same (delH _ _) (delH _ _) by assumption) ?hq; (case hq => walk_at "hpNMo"))
  | (refine' Nm.same (mk_mono (by assumption)) ?hq; (case hq => walk_at "hpNMo"))
  | fail)
local macro_rules | `(tactic| walk_at "hpNM") => `(tactic| with_reducible first
  | walk_at "hpNMo"
  | (refine' Nm.of ?hq; (case hq => walk_at "hpM"))
  | fail)
local macro_rules | `(tactic| walk_at "hpN") => `(tactic| with_reducible first
  | walk_at "hpNo"
  | (refine' Nm.same mk_same ?hq; (case hq => walk_at "hpNMo"))
  | (refine' Nm.of ?hq; (case hq => walk_at "hpH"))
  | fail)
local macro_rules | `(tactic| walk_at "hpPo") => `(tactic| with_reducible first
  | assumption
  | (refine' Pr.same (same_new (by assumption)) ?hq; (case hq => walk_at "hpPo"))
  | (refine' Pr.same (by assumption) ?hq; (case hq => walk_at "hpPo"))
  | fail)
local macro_rules | `(tactic| walk_at "hpPMo") => `(tactic| with_reducible first
  | assumption
  | (refine' Pr.same (mk_upd (by assumption)) ?hq; (case hq => walk_at "hpPMo"))
  | (refine' Pr.same (show Same (delH _ _) (delH _ _) by assumption) ?hq; (case hq => walk_at "hpPMo"))
  | (refine' Pr.same (mk_mono (by assumption)) ?hq; (case hq => walk_at "hpPMo"))
  | fail)
local macro_rules | `(tactic| walk_at "hpPM") => `(tactic| with_reducible first
  | walk_at "hpPMo"
  | (refine' Pr.of ?hq; (case hq => walk_at "hpM"))
  | fail)
local macro_rules | `(tactic| walk_at "hpP") => `(tactic| with_reducible first
  | walk_at "hpPo"
  | (refine' Pr.same mk_same ?hq; (case hq => walk_at "hpPMo"))
  | (refine' Pr.of ?hq; (case hq => walk_at "hpH"))
  | fail)
local macro_rules | `(tactic| walk_at "hpDo") => `(tactic| with_reducible first
  | assumption
  | exact Dq.int _ | exact Dq.bl _ | exact Dq.str _ | exact Dq.non
  | (refine' Dq.same (same_new (by assumption)) ?hq; (case hq => walk_at "hpDo"))
  | (refine' Dq.same (by assumption) ?hq; (case hq => walk_at "hpDo"))
  | fail)
local macro_rules | `(tactic| walk_at "hpDMo") => `(tactic| with_reducible first
  | assumption
  | exact Dq.int _ | exact Dq.bl _ | exact Dq.str _ | exact Dq.non
  | (refine' Dq.same (mk_upd (by assumption)) ?hq; (case hq => walk_at "hpDMo"))
  | (refine' Dq.same (show Same (delH _ _) (delH _ _) by assumption) ?hq; (case hq => walk_at "hpDMo"))
  | (refine' Dq.same (mk_mono (by assumption)) ?hq; (case hq => walk_at "hpDMo"))
  | fail)
local macro_rules | `(tactic| walk_at "hpDM") => `(tactic| with_reducible first
  | walk_at "hpDMo"
  | fail)
local macro_rules | `(tactic| walk_at "hpD") => `(tactic| with_reducible first
  | walk_at "hpDo"
  | (refine' Dq.same mk_same ?hq; (case hq => walk_at "hpDMo"))
  | fail)
local macro_rules | `(tactic| walk_at "call") => `(tactic| first
  | ((with_reducible refine' sp_draw ?_ ?h ?side1 ?side2); (case h => walk_at "hpB"); intro idraw Hd' hi0 hi1 sd' bd')
  | fail)

local macro_rules | `(tactic| walk_at "hpPoo") => `(tactic| with_reducible first
  | assumption
  | (refine' Pool.same (same_new (by assumption)) ?hq; (case hq => walk_at "hpPoo"))
  | (refine' Pool.same (by assumption) ?hq; (case hq => walk_at "hpPoo"))
  | fail)
local macro_rules | `(tactic| walk_at "hpPoM") => `(tactic| with_reducible first
  | assumption
  | (refine' Pool.same (mk_upd (by assumption)) ?hq; (case hq => walk_at "hpPoM"))
  | (refine' Pool.same (show Same (delH _ _) (delH _ _) by assumption) ?hq; (case hq => walk_at "hpPoM"))
  | (refine' Pool.same (mk_mono (by assumption)) ?hq; (case hq => walk_at "hpPoM"))
  | fail)
local macro_rules | `(tactic| walk_at "hpPo") => `(tactic| with_reducible first
  | walk_at "hpPoo"
  | (refine' Pool.same mk_same ?hq; (case hq => walk_at "hpPoM"))
  | fail)

local macro_rules | `(tactic| walk_at "call") => `(tactic| first
  | ((with_reducible refine' sp_draw ?_ ?h ?side1 ?side2); (case h => walk_at "hpB"); intro idraw Hd' hi0 hi1 sd' bd')
  | ((with_reducible refine' sp_ofP ?_ ?h ?hp ?B ?side1 ?side2); (case h => walk_at "hpM"); (case hp => walk_at "hpPoM"); (case B => walk_at "hpB"); intro tof nof dof Hof hof hbof sof bof)
  | ((with_reducible refine' sp_handed ?_ ?h ?B); (case h => walk_at "hpM"); (case B => walk_at "hpB"); intro xhd Hhd hnd shd bhd)
  | ((with_reducible refine' g_listOf ?_ ?h); (case h => walk_at "hpL"); intro plo nplo)
  | ((with_reducible refine' g_tupOf ?_ ?h); (case h => walk_at "hpL"); intro pto npto)
  | fail)
section
variable {P : Program} {w : World} {K : Fg} {mg : Str → Option Value} {base : Heap} {f f1 f2 f3 f4 f5 f6 f7 f8 f9 f10 f11 f12 : Addr} {fd : FuncData}
theorem ok_l_lists (F : Fun K "_law_lists" "_law_lists" s_l_lists f fd) (T : Blt mg) (D_l_draw : Df P w K mg base 1 "_law_draw" f1 ["_law_bag_here", "_law_many"] spDraw) (D_l_of : Df P w K mg base 2 "_law_of" f2 ["_law_bag_here", "_law_things"] spOf) (D_l_handed : Df P w K mg base 2 "_law_handed" f3 ["_law_bag_here", "_law_one"] spHanded)
    (D_l_sorted : Df P w K mg base 2 "_law_sorted" f4 ["_law_many"] (spSorted K)) (D_in_order : Df P w K mg base 2 "in_order" f5 ["numbers"] (spOrd2 K)) (D_l_like : Df P w K mg base 5 "_law_like" f6 ["_law_found", "_law_due"] (spLike 4))
    (D_least : Df P w K mg base 2 "least" f7 ["numbers"] (spBest K lst)) (D_greatest_of : Df P w K mg base 2 "greatest_of" f8 ["numbers"] (spBest K grt)) : FnOk P w K mg base CX0 6 f fd ["_law_bag_here", "_law_pool"] spLists := by
  obtain ⟨_, G_l_draw, B_l_draw⟩ := D_l_draw.ok
  obtain ⟨_, G_l_of, B_l_of⟩ := D_l_of.ok
  obtain ⟨_, G_l_handed, B_l_handed⟩ := D_l_handed.ok
  obtain ⟨_, G_l_sorted, B_l_sorted⟩ := D_l_sorted.ok
  obtain ⟨_, G_in_order, B_in_order⟩ := D_in_order.ok
  obtain ⟨_, G_l_like, B_l_like⟩ := D_l_like.ok
  obtain ⟨_, G_least, B_least⟩ := D_least.ok
  obtain ⟨_, G_greatest_of, B_greatest_of⟩ := D_greatest_of.ok
  refine F.ok sc_l_lists (fun vs H Q E h => ?_) (fun cdv A outer s H vs Q E hr h => ?_)
  · obtain ⟨b, c, l, xs, rfl, _⟩ := h
    rfl
  · obtain ⟨b, c, l, xs, rfl, B, hl, hp, hx0, hx1, k⟩ := h
    refine ⟨_, (pss_cons (ps_setLc (i := 2) (own := [("_law_k", 3)]) (g := gName 3) (tt := tYes) rfl sc_l_lists.nd rfl rfl (sw_true rfl rfl rfl (by decide +kernel)) (pi_range1 (by rfl) T.n_range (pa_cons (pe_op op_add pe_int (pe_call G_l_draw (hr.mono (by decide)) (by rfl) D_l_draw.g D_l_draw.kp B_l_draw .nil pass0 (pa_cons (pv 0) (pa_cons pe_int pa_nil)))) pa_nil)) (blkOk_by (N := ["_law_bag_here", "_law_pool", "_law_some", "_law_k", "_law_handed_here", "_law_one", "_law_kept", "_law_due", "_law_first", "_law_told"]) (sc := defScope s_l_lists) (by decide +kernel)) (fun _ _ _ _ _ => pg_name (i := 3) sc_l_lists.nd rfl (.inl rfl)) (fun _ _ _ _ _ => pts_nil) (fun _ _ _ _ _ => (pe_call G_l_of (hr.mono (by decide)) (by rfl) D_l_of.g D_l_of.kp B_l_of .nil pass0 (pa_cons (pv 0) (pa_cons (pv 1) pa_nil)))))
      (pss_cons (ps_setLc (i := 4) (own := [("_law_one", 5)]) (g := gName 5) (tt := tYes) rfl sc_l_lists.nd rfl rfl (sw_true rfl rfl rfl (by decide +kernel)) (pi_list (pv 2)) (blkOk_by (N := ["_law_bag_here", "_law_pool", "_law_some", "_law_k", "_law_handed_here", "_law_one", "_law_kept", "_law_due", "_law_first", "_law_told"]) (sc := defScope s_l_lists) (by decide +kernel)) (fun _ _ _ _ _ => pg_name (i := 5) sc_l_lists.nd rfl (.inl rfl)) (fun _ _ _ _ _ => pts_nil) (fun _ _ _ _ _ => (pe_call G_l_handed (hr.mono (by decide)) (by rfl) D_l_handed.g D_l_handed.kp B_l_handed .nil pass0 (pa_cons (pv 0) (pa_cons (pv 5) pa_nil)))))
      (pss_cons (ps_par (i := 6) (j := 7) rfl sc_l_lists.nd rfl rfl (by decide) rfl rfl (pa_cons (pe_callTy (cg_listOf K) (by rfl) T.n_list (by decide +kernel) (pa_cons (pv 4) pa_nil)) (pa_cons (pe_call G_l_sorted (hr.mono (by decide)) (by rfl) D_l_sorted.g D_l_sorted.kp B_l_sorted .nil pass0 (pa_cons (pv 2) pa_nil)) pa_nil)) rfl)
      (pss_cons (ps_set (i := 8) sc_l_lists.nd rfl (.inl rfl) (pe_call G_in_order (hr.mono (by decide)) (by rfl) D_in_order.g D_in_order.kp B_in_order .nil pass0 (pa_cons (pe_ifExp (pt_cmpR op_eq (pe_call G_l_draw (hr.mono (by decide)) (by rfl) D_l_draw.g D_l_draw.kp B_l_draw .nil pass0 (pa_cons (pv 0) (pa_cons pe_int pa_nil))) pe_int (nomark _)) (pe_callTy (cg_tupOf K) (by rfl) T.n_tuple (by decide +kernel) (pa_cons (pv 4) pa_nil)) (pv 4)) pa_nil)))
      (pss_cons (ps_if (pt_not (pt_val (pe_call G_l_like (hr.mono (by decide)) (by rfl) D_l_like.g D_l_like.kp B_l_like .nil pass0 (pa_cons (pv 8) (pa_cons (pv 7) pa_nil)))))
      (pss_one (ps_ret pe_bl)) pss_nil)
      (pss_cons (ps_expr (pe_bm PySem.F.plainAttrs_list PySem.F.slot_list_append PySem.F.type_list_append mt_append (pv 8) (pa_cons (pe_tup (pa_cons pe_int (pa_cons pe_int pa_nil))) pa_nil)))
      (pss_cons (ps_set (i := 9) sc_l_lists.nd rfl (.inl rfl) (pe_lst (pa_cons (pe_call G_least (hr.mono (by decide)) (by rfl) D_least.g D_least.kp B_least .nil pass0 (pa_cons (pv 4) pa_nil)) (pa_cons (pe_call G_greatest_of (hr.mono (by decide)) (by rfl) D_greatest_of.g D_greatest_of.kp B_greatest_of .nil pass0 (pa_cons (pv 4) pa_nil)) (pa_cons (pe_call G_in_order (hr.mono (by decide)) (by rfl) D_in_order.g D_in_order.kp B_in_order .nil pass0 (pa_cons (pv 4) pa_nil)) (pa_cons (pe_call G_in_order (hr.mono (by decide)) (by rfl) D_in_order.g D_in_order.kp B_in_order .nil pass0 (pa_cons (pe_lst pa_nil) pa_nil)) pa_nil))))))
      (pss_one (ps_ret (pe_and (pe_call G_l_like (hr.mono (by decide)) (by rfl) D_l_like.g D_l_like.kp B_l_like .nil pass0 (pa_cons (pv 9) (pa_cons (pe_lst (pa_cons (pe_ix (ix_seqK K) (pv 7) pe_int (fun _ _ => rfl)) (pa_cons (pe_ix (ix_seqK K) (pv 7) (pe_un un_neg pe_int) (fun _ _ => rfl)) (pa_cons (pv 7) (pa_cons (pe_lst pa_nil) pa_nil))))) pa_nil))) (pe_one (pe_call G_l_like (hr.mono (by decide)) (by rfl) D_l_like.g D_l_like.kp B_l_like .nil pass0 (pa_cons (pv 4) (pa_cons (pv 6) pa_nil)))))))))))))), ?_⟩
    walk_at "go"
    all_goals first
      | omega
      | skip
    rename_i i0 H1 hi0 hi1 s1 B1
    intro D hD
    have hDb : D ≠ b := (B1.free hD).1
    have en : (1 + i0).toNat ≤ 9 := by omega
    have en1 : 1 ≤ (1 + i0).toNat := by omega
    generalize (1 + i0).toNat = N at *
    refine lcB (walk_range (lo := 0) (n := N)) hD B1 (fun H k y => Drw b D H y) (by omega) (fun _ _ _ => trivial) (fun _ _ _ _ h f => f.mono h) (fun i x H2 H2' hi s2 B2 hD2 y' Kt kt => ?_) (fun H2 zs s2 B2 hZ hzl hzs => ?_) gm_name
    · obtain ⟨rfl, rfl⟩ := y'
      refine g_wipe rfl ?_
      walk_at "go"
      all_goals first
        | assumption
        | omega
        | skip
      rename_i t n d H3 ht hb s3 b3
      obtain ⟨acc, hA⟩ := hD2
      refine kt _ _ s3 b3 ⟨t, n, d, rfl, ?_, ht, hb⟩
      have hA3 := s3 _ _ (mk_at hA hDb)
      exact (ne_of hA3 ht (by intro z; cases z)).symm
    · obtain ⟨qs, hpq, hbq⟩ := drw_pick hzs
      have hql := hpq.length
      have hZb := mk_at hZ hDb
      walk_at "go"
      intro D2 hD2
      have hD2b : D2 ≠ b := (B2.free hD2).1
      refine lcB (walk_list (K := K) (a := D) (xs := zs)) hD2 B2 (fun H k y => ∃ q, qs[k]? = some q ∧ Hnd b D2 H y q) (by omega) (fun H3 s3 B3 => SqL.of (mk_same _ _ (s3 _ _ hZb))) (fun _ _ _ _ h f => by obtain ⟨q, e, f⟩ := f; exact ⟨q, e, f.mono h⟩) (fun i x H3 H3' hi s3 B3 hD3 y' Kt kt => ?_) (fun H3 hs s3 B3 hS hsl hss => ?_) gm_name
      · obtain ⟨rfl, hx⟩ := y'
        obtain ⟨q, hq, t, rfl, ht⟩ := paired_at hpq hx
        have ht3 := s3 _ _ ht
        refine g_wipe rfl ?_
        walk_at "go"
        rename_i y H4 hn s4 b4
        obtain ⟨acc, hA⟩ := hD3
        refine kt _ _ s4 b4 ⟨q, hq, ?_⟩
        rcases hn with ⟨u, rfl, hu⟩ | hn
        · exact .inl ⟨u, rfl, (ne_of (s4 _ _ (mk_at hA hD2b)) hu (by intro z; cases z)).symm, hu⟩
        · exact .inr hn
      · have hnq := hnd_pick (by omega) hss
        have hSb := mk_at hS hD2b
        obtain ⟨q, qr, rfl⟩ : ∃ q qr, qs = q :: qr := by
          cases qs with
          | nil =>
            rw [List.length_nil] at hql
            omega
          | cons q qr => exact ⟨q, qr, rfl⟩
        have hgd : Gds (q :: qr) := fun x hx => ⟨(hbq x hx).1, (hbq x hx).sz⟩
        have hlo : ∀ x ∈ q :: qr, Lo x := fun x hx => (hbq x hx).1
        walk_at "go"
        rename_i p np
        have s4 := same_new (o := .lst hs) np
        have hP : upd H3 p (.lst hs) p = some (.lst hs) := upd_same
        have B4 := bag_same B3 s4
        generalize upd H3 p (.lst hs) = H4 at s4 hP B4
        have hPb := mk_at hP (by
          intro e
          rw [e] at np
          obtain ⟨_, _, _, _, _, _, hbb, _⟩ := B3
          rw [hbb] at np
          cases np)
        have s34 : Same (delH H3 b) (delH H4 b) := mk_mono s4
        have hpq4 := prs_same mk_same (prs_same s34 (prs_same s3 hpq))
        have hD4z : H4 D = some (.lst zs) := mk_same _ _ (s34 _ _ (s3 _ _ hZb))
        refine ⟨D, zs, q :: qr, rfl, SqL.of hD4z, hpq4, hgd, by omega, fun D3 H5 ys s5 nD3 hY hpy => ?_⟩
        have B5 := bag_same B4 s5
        have hyl := hpy.length
        have hol : (ord (q :: qr)).length ≤ 1000 := Nat.le_trans (ord_len _) (by omega)
        have hYb := mk_at hY (B4.free nD3).1
        have hpyb : Paired (Pr (delH H5 b)) ys (ord (q :: qr)) := paired_mono (fun v x h => by
          obtain ⟨t, rfl, ht⟩ := h
          exact ⟨t, rfl, mk_tup ht B5⟩) hpy
        have s45 : Same (delH H4 b) (delH H5 b) := mk_mono s5
        have hnq5 := nms_same s45 (nms_same s34 hnq)
        have hSb5 := s45 _ _ (s34 _ _ hSb)
        have hPb5 := s45 _ _ hPb
        walk_at "gos"
        all_goals first
          | omega
          | skip
        · rename_i i1 H6 i10 i11 s6 B6 c1 tp ntp
          have hTb := mk_new (o := .tup hs) ntp B6
          have s67 := mk_upd (b := b) (o := .tup hs) ntp
          have B7 := bag_upd (o := .tup hs) B6 ntp
          have hT : upd H6 tp (.tup hs) tp = some (.tup hs) := upd_same
          generalize upd H6 tp (.tup hs) = H7 at hTb s67 B7 hT
          have s57 := s6.trans s67
          have hnq7 := nms_same mk_same (nms_same s57 hnq5)
          have hpy7 := prs_same mk_same (prs_same s57 hpyb)
          have hY7 : H7 D3 = some (.lst ys) := mk_same _ _ (s57 _ _ hYb)
          have hS7 : H7 D2 = some (.lst hs) := mk_same _ _ (s57 _ _ hSb5)
          have hP7 : H7 p = some (.lst hs) := mk_same _ _ (s57 _ _ hPb5)
          refine .inl ⟨tp, hs, q :: qr, rfl, SqT.of hT, hnq7, hgd, by omega, fun D4 H8 ys4 s8 nD4 hY4 hp4 => ?_⟩
          walk_at "go"
          refine sp_like (.lst hY4 (prs_dq hp4)) (.lst (s8 _ _ hY7) (prs_dq (prs_same s8 hpy7))) ⟨by rw [List.length_map]; exact hol, pqs_ok⟩ fun H9 s9 => ?_
          have hY49 := s9 _ _ hY4
          have hyl4 := hp4.length
          walk_at "go"
          all_goals first
            | (rw [sizeLine_eq]; omega)
            | skip
          rename_i tn ntn
          have sB : Same H7 (upd (upd H9 tn (.tup [.int 1, .int 1])) D4 (.lst (ys4 ++ [.ref tn]))) := fun a o e => by
            rw [upd_ne (ne_of_none e nD4)]
            exact (same_new ntn) _ _ (s9 _ _ (s8 _ _ e))
          generalize upd (upd H9 tn (.tup [.int 1, .int 1])) D4 (.lst (ys4 ++ [.ref tn])) = H10 at sB
          refine ⟨D2, hs, q, qr, rfl, SqL.of (sB _ _ hS7), nms_same sB hnq7, hgd, fun tl H11 s11 hl11 => ?_⟩
          walk_at "go"
          have sB11 := sB.trans s11
          refine ⟨D2, hs, q, qr, rfl, SqL.of (sB11 _ _ hS7), nms_same sB11 hnq7, hgd, fun tg H12 s12 hg12 => ?_⟩
          walk_at "go"
          have sB12 := sB11.trans s12
          refine .inr ⟨D2, hs, q :: qr, rfl, SqL.of (sB12 _ _ hS7), nms_same sB12 hnq7, hgd, by omega, fun D5 H13 ys5 s13 _ hY5 hp5 => ?_⟩
          walk_at "go"
          rename_i e0 ne0
          refine .inr ⟨e0, [], [], rfl, SqL.of upd_same, .nil, (fun x hx => by cases hx), by decide, fun D6 H14 ys6 s14 _ hY6 hp6 => ?_⟩
          have e6 : ys6 = [] := List.length_eq_zero_iff.mp hp6.length
          subst e6
          have s1314 := (same_new (o := .lst []) ne0).trans s14
          have sB14 := (sB12.trans s13).trans s1314
          walk_at "go"
          rename_i tt ntt
          have s15 := same_new (o := .lst [.ref tl, .ref tg, .ref D5, .ref D6]) ntt
          have hTd : upd H14 tt (.lst [.ref tl, .ref tg, .ref D5, .ref D6]) tt = some (.lst [.ref tl, .ref tg, .ref D5, .ref D6]) := upd_same
          generalize upd H14 tt (.lst [.ref tl, .ref tg, .ref D5, .ref D6]) = H15 at s15 hTd
          have sB15 := sB14.trans s15
          have s1315 := s1314.trans s15
          have hl15 : Pr H15 (.ref tl) (lst (q :: qr) q) := Pr.of (s1315 _ _ (s13 _ _ (s12 _ _ hl11)))
          have hg15 : Pr H15 (.ref tg) (grt (q :: qr) q) := Pr.of (s1315 _ _ (s13 _ _ hg12))
          have hp515 := prs_same s1315 hp5
          have hY515 := s1315 _ _ hY5
          have hY615 := s15 _ _ hY6
          have hY15 := sB15 _ _ hY7
          have hpy15 := prs_same sB15 hpy7
          have o0 := lst_ord hlo
          have o1 := grt_ord hlo
          obtain ⟨y0, hy0, pr0⟩ := paired_back hpy15 o0
          rw [List.getLast?_eq_getElem?] at o1
          obtain ⟨y1, hy1, pr1⟩ := paired_back hpy15 o1
          rw [← hyl, ← List.getLast?_eq_getElem?] at hy1
          refine g_ixL ?_ (SqL.of hY15) (atI_nat (j := 0) hy0)
          walk_at "go"
          refine g_ixL ?_ (SqL.of hY15) (atI_last hy1)
          walk_at "go"
          rename_i e1 ne1 t2 nt2
          have s16 := (same_new (o := .lst []) ne1).trans (same_new (o := .lst [y0, y1, .ref D3, .ref e1]) nt2)
          have he1 : upd (upd H15 e1 (.lst [])) t2 (.lst [y0, y1, .ref D3, .ref e1]) e1 = some (.lst []) := (same_new nt2) _ _ upd_same
          have ht2 : upd (upd H15 e1 (.lst [])) t2 (.lst [y0, y1, .ref D3, .ref e1]) t2 = some (.lst [y0, y1, .ref D3, .ref e1]) := upd_same
          generalize upd (upd H15 e1 (.lst [])) t2 (.lst [y0, y1, .ref D3, .ref e1]) = H16 at s16 he1 ht2
          refine sp_like (d := .lst [.pq (lst (q :: qr) q), .pq (grt (q :: qr) q), .lst ((ord (q :: qr)).map Dt.pq), .lst []])
            (.lst (s16 _ _ hTd) (.cons (hl15.same s16).dq (.cons (hg15.same s16).dq (.cons (.lst (s16 _ _ hY515) (prs_dq (prs_same s16 hp515))) (.cons (.lst (s16 _ _ hY615) .nil) .nil)))))
            (.lst ht2 (.cons (pr0.same s16).dq (.cons (pr1.same s16).dq (.cons (.lst (s16 _ _ hY15) (prs_dq (prs_same s16 hpy15))) (.cons (.lst he1 .nil) .nil)))))
            ⟨Nat.le_of_ble_eq_true rfl, fun x hx => ?_⟩ fun H17 s17 => ?_
          · simp only [List.mem_cons, List.not_mem_nil, or_false] at hx
            rcases hx with rfl | rfl | rfl | rfl
            · simp [Dt.pq, Dt.ok]
            · simp [Dt.pq, Dt.ok]
            · exact ⟨by rw [List.length_map]; exact hol, pqs_ok⟩
            · simp [Dt.ok]
          · have sB17 := (sB15.trans s16).trans s17
            walk_at "go"
            obtain ⟨ds, dq1, dl, dok⟩ := nms_dq (nms_same sB17 hnq7)
            refine sp_like (d := .lst ds) (.lst (sB17 _ _ hS7) dq1) (.lst (sB17 _ _ hP7) dq1) ⟨by omega, dok⟩ fun H18 s18 => ?_
            exact k _ ((((((s1.trans s2).trans s3).trans s34).trans s45).trans s57).trans (mk_mono (sB17.trans s18))) (bag_same B7 (sB17.trans s18))
        · rename_i i1 H7 i10 i11 s6 B7 c1
          have s57 := s6
          have hnq7 := nms_same mk_same (nms_same s57 hnq5)
          have hpy7 := prs_same mk_same (prs_same s57 hpyb)
          have hY7 : H7 D3 = some (.lst ys) := mk_same _ _ (s57 _ _ hYb)
          have hS7 : H7 D2 = some (.lst hs) := mk_same _ _ (s57 _ _ hSb5)
          have hP7 : H7 p = some (.lst hs) := mk_same _ _ (s57 _ _ hPb5)
          refine .inr ⟨D2, hs, q :: qr, rfl, SqL.of hS7, hnq7, hgd, by omega, fun D4 H8 ys4 s8 nD4 hY4 hp4 => ?_⟩
          walk_at "go"
          refine sp_like (.lst hY4 (prs_dq hp4)) (.lst (s8 _ _ hY7) (prs_dq (prs_same s8 hpy7))) ⟨by rw [List.length_map]; exact hol, pqs_ok⟩ fun H9 s9 => ?_
          have hY49 := s9 _ _ hY4
          have hyl4 := hp4.length
          walk_at "go"
          all_goals first
            | (rw [sizeLine_eq]; omega)
            | skip
          rename_i tn ntn
          have sB : Same H7 (upd (upd H9 tn (.tup [.int 1, .int 1])) D4 (.lst (ys4 ++ [.ref tn]))) := fun a o e => by
            rw [upd_ne (ne_of_none e nD4)]
            exact (same_new ntn) _ _ (s9 _ _ (s8 _ _ e))
          generalize upd (upd H9 tn (.tup [.int 1, .int 1])) D4 (.lst (ys4 ++ [.ref tn])) = H10 at sB
          refine ⟨D2, hs, q, qr, rfl, SqL.of (sB _ _ hS7), nms_same sB hnq7, hgd, fun tl H11 s11 hl11 => ?_⟩
          walk_at "go"
          have sB11 := sB.trans s11
          refine ⟨D2, hs, q, qr, rfl, SqL.of (sB11 _ _ hS7), nms_same sB11 hnq7, hgd, fun tg H12 s12 hg12 => ?_⟩
          walk_at "go"
          have sB12 := sB11.trans s12
          refine .inr ⟨D2, hs, q :: qr, rfl, SqL.of (sB12 _ _ hS7), nms_same sB12 hnq7, hgd, by omega, fun D5 H13 ys5 s13 _ hY5 hp5 => ?_⟩
          walk_at "go"
          rename_i e0 ne0
          refine .inr ⟨e0, [], [], rfl, SqL.of upd_same, .nil, (fun x hx => by cases hx), by decide, fun D6 H14 ys6 s14 _ hY6 hp6 => ?_⟩
          have e6 : ys6 = [] := List.length_eq_zero_iff.mp hp6.length
          subst e6
          have s1314 := (same_new (o := .lst []) ne0).trans s14
          have sB14 := (sB12.trans s13).trans s1314
          walk_at "go"
          rename_i tt ntt
          have s15 := same_new (o := .lst [.ref tl, .ref tg, .ref D5, .ref D6]) ntt
          have hTd : upd H14 tt (.lst [.ref tl, .ref tg, .ref D5, .ref D6]) tt = some (.lst [.ref tl, .ref tg, .ref D5, .ref D6]) := upd_same
          generalize upd H14 tt (.lst [.ref tl, .ref tg, .ref D5, .ref D6]) = H15 at s15 hTd
          have sB15 := sB14.trans s15
          have s1315 := s1314.trans s15
          have hl15 : Pr H15 (.ref tl) (lst (q :: qr) q) := Pr.of (s1315 _ _ (s13 _ _ (s12 _ _ hl11)))
          have hg15 : Pr H15 (.ref tg) (grt (q :: qr) q) := Pr.of (s1315 _ _ (s13 _ _ hg12))
          have hp515 := prs_same s1315 hp5
          have hY515 := s1315 _ _ hY5
          have hY615 := s15 _ _ hY6
          have hY15 := sB15 _ _ hY7
          have hpy15 := prs_same sB15 hpy7
          have o0 := lst_ord hlo
          have o1 := grt_ord hlo
          obtain ⟨y0, hy0, pr0⟩ := paired_back hpy15 o0
          rw [List.getLast?_eq_getElem?] at o1
          obtain ⟨y1, hy1, pr1⟩ := paired_back hpy15 o1
          rw [← hyl, ← List.getLast?_eq_getElem?] at hy1
          refine g_ixL ?_ (SqL.of hY15) (atI_nat (j := 0) hy0)
          walk_at "go"
          refine g_ixL ?_ (SqL.of hY15) (atI_last hy1)
          walk_at "go"
          rename_i e1 ne1 t2 nt2
          have s16 := (same_new (o := .lst []) ne1).trans (same_new (o := .lst [y0, y1, .ref D3, .ref e1]) nt2)
          have he1 : upd (upd H15 e1 (.lst [])) t2 (.lst [y0, y1, .ref D3, .ref e1]) e1 = some (.lst []) := (same_new nt2) _ _ upd_same
          have ht2 : upd (upd H15 e1 (.lst [])) t2 (.lst [y0, y1, .ref D3, .ref e1]) t2 = some (.lst [y0, y1, .ref D3, .ref e1]) := upd_same
          generalize upd (upd H15 e1 (.lst [])) t2 (.lst [y0, y1, .ref D3, .ref e1]) = H16 at s16 he1 ht2
          refine sp_like (d := .lst [.pq (lst (q :: qr) q), .pq (grt (q :: qr) q), .lst ((ord (q :: qr)).map Dt.pq), .lst []])
            (.lst (s16 _ _ hTd) (.cons (hl15.same s16).dq (.cons (hg15.same s16).dq (.cons (.lst (s16 _ _ hY515) (prs_dq (prs_same s16 hp515))) (.cons (.lst (s16 _ _ hY615) .nil) .nil)))))
            (.lst ht2 (.cons (pr0.same s16).dq (.cons (pr1.same s16).dq (.cons (.lst (s16 _ _ hY15) (prs_dq (prs_same s16 hpy15))) (.cons (.lst he1 .nil) .nil)))))
            ⟨Nat.le_of_ble_eq_true rfl, fun x hx => ?_⟩ fun H17 s17 => ?_
          · simp only [List.mem_cons, List.not_mem_nil, or_false] at hx
            rcases hx with rfl | rfl | rfl | rfl
            · simp [Dt.pq, Dt.ok]
            · simp [Dt.pq, Dt.ok]
            · exact ⟨by rw [List.length_map]; exact hol, pqs_ok⟩
            · simp [Dt.ok]
          · have sB17 := (sB15.trans s16).trans s17
            walk_at "go"
            obtain ⟨ds, dq1, dl, dok⟩ := nms_dq (nms_same sB17 hnq7)
            refine sp_like (d := .lst ds) (.lst (sB17 _ _ hS7) dq1) (.lst (sB17 _ _ hP7) dq1) ⟨by omega, dok⟩ fun H18 s18 => ?_
            exact k _ ((((((s1.trans s2).trans s3).trans s34).trans s45).trans s57).trans (mk_mono (sB17.trans s18))) (bag_same B7 (sB17.trans s18))
end
end Ko


namespace Ko
open PySem L2 PySem.Spec PyProof.Rows Xm
def spLaw (K : Fg) : Sp := fun vs H Q _ => ∃ (a : Addr) (ns : List Int), vs = [.ref a] ∧ SqL K H a (ns.map V.int) ∧ ∀ H', Q (.bl true) H'
section
variable {H : Hp} {Q : VK} {E : XK} {b c t u l : Addr} {n d m e : Int} {xs : List V} {x y v : V} {dd : Dt} {q : Pq}
theorem sp_goodK (k : ∀ l v t n d H' dd, delH H' b l = some (.lst [v, .ref t]) → Dq (delH H' b) v dd → exOk dd → exD dd = some (n, d) → Dt.ok 2 dd → dd.fits → delH H' b t = some (.tup [.int n, .int d]) → Big (n, d) → Same (delH H b) (delH H' b) → Bag H' b c → Q (.ref l) H') (B : Bag H b c) : spGood [.ref b] H Q E :=
  ⟨b, c, rfl, B, fun l v t n d H' h1 h2 h3 h4 h5 h6 => by
    obtain ⟨dd, a1, a2, a3, a4, a5⟩ := h2
    exact k l v t n d H' dd h1 a1 a2 a3 a4 a5 h3 h4 h5 h6⟩
theorem sp_nearK (k : ∀ v H' dd, Dq (delH H' b) v dd → exOk dd → exD dd = none → Dt.ok 2 dd → dd.fits → Same (delH H b) (delH H' b) → Bag H' b c → Q v H') (h : delH H b t = some (.tup [.int n, .int d])) (B : Bag H b c) (hs : Small (n, d)) : spNear [.ref b, .ref t] H Q E :=
  sp_near (fun v H' h2 h5 h6 => by
    obtain ⟨dd, a1, a2, a3, a4, a5⟩ := h2
    exact k v H' dd a1 a2 a3 a4 a5 h5 h6) h B hs
theorem sp_exactD (k : Ret H Q q) (hx : Dq H v dd) (ho : exOk dd) (he : exD dd = some q) : spExact [v] H Q E := ⟨v, dd, q, rfl, hx, ho, he, k⟩
theorem sp_numD (k : Q (.bl dd.isNum) H) (hx : Dq H v dd) : spNum [v] H Q E := ⟨v, dd, rfl, hx, k⟩
theorem sp_ownD (k : ∀ H', Same H H' → Q (.bl dd.isNum) H') (hx : Dq H v dd) (hf : dd.fits) : spOwn [v] H Q E := ⟨v, dd, rfl, hx, hf, k⟩
theorem sp_refD (k : ∀ l H', Same H H' → H' l = some (.lst [v]) → Q (.ref l) H') (hx : Dq H v dd) (ho : exOk dd) (he : exD dd = none) (hk : Dt.ok 2 dd) (hf : dd.fits) : spRefused [v] H Q E := ⟨v, rfl, ⟨dd, hx, ho, he, hk, hf⟩, k⟩
theorem sp_likeK (k : ∀ H', Same H H' → Q (.bl true) H') (hx : Dq H x dd) (hy : Dq H y dd) (o : Dt.ok 4 dd) : spLike 4 [x, y] H Q E := sp_like hx hy o k
theorem sp_runsK (k : ∀ H', Same (delH H b) (delH H' b) → Bag H' b c → Q (.bl true) H') (h : delH H b l = some (.lst xs)) (hp : Pool (delH H b) xs) (B : Bag H b c) (h0 : 0 < xs.length) (h1 : xs.length ≤ 100) : spRuns [.ref b, .ref l] H Q E := ⟨b, c, l, xs, rfl, B, h, hp, h0, h1, k⟩
theorem sp_listsK (k : ∀ H', Same (delH H b) (delH H' b) → Bag H' b c → Q (.bl true) H') (h : delH H b l = some (.lst xs)) (hp : Pool (delH H b) xs) (B : Bag H b c) (h0 : 0 < xs.length) (h1 : xs.length ≤ 500) : spLists [.ref b, .ref l] H Q E := ⟨b, c, l, xs, rfl, B, h, hp, h0, h1, k⟩
theorem ok_l2 (h : Dt.ok 2 dd) {x : Bool} : Dt.ok 4 (.lst [.lst [dd], .bl x]) := ⟨Nat.le_of_ble_eq_true rfl, fun z hz => by
  simp only [List.mem_cons, List.not_mem_nil, or_false] at hz
  rcases hz with rfl | rfl
  · exact ⟨Nat.le_of_ble_eq_true rfl, fun z hz => by rw [List.mem_singleton.mp hz]; exact h⟩
  · trivial⟩
theorem ok_l1 {x : Bool} : Dt.ok 4 (.lst [.tup [.int n, .int d], .bl x]) := ⟨Nat.le_of_ble_eq_true rfl, fun z hz => by
  simp only [List.mem_cons, List.not_mem_nil, or_false] at hz
  rcases hz with rfl | rfl
  · simp [Dt.ok]
  · trivial⟩
end

local macro_rules | `(tactic| walk_at "hpS") => `(tactic| with_reducible first
  | exact Same.refl _
  | assumption
  | (refine' Same.trans ?hq (same_new (by assumption)); (case hq => walk_at "hpS"))
  | (refine' Same.trans ?hq (by assumption); (case hq => walk_at "hpS"))
  | fail)
local macro_rules | `(tactic| walk_at "hpH") => `(tactic| with_reducible first
  | assumption
  | exact upd_same
  | (refine' same_at (same_new (by assumption)) ?hq; (case hq => walk_at "hpH"))
  | (refine' same_at (by assumption) ?hq; (case hq => walk_at "hpH"))
  | fail)
local macro_rules | `(tactic| walk_at "hpTo") => `(tactic| with_reducible first
  | assumption
  | (refine' sq_t (same_new (by assumption)) ?hq; (case hq => walk_at "hpTo"))
  | (refine' sq_t (by assumption) ?hq; (case hq => walk_at "hpTo"))
  | fail)
local macro_rules | `(tactic| walk_at "hpT") => `(tactic| with_reducible first
  | (refine' SqT.of ?hq; (case hq => walk_at "hpH"))
  | walk_at "hpTo"
  | fail)
local macro_rules | `(tactic| walk_at "hpLo") => `(tactic| with_reducible first
  | assumption
  | (refine' sq_l (same_new (by assumption)) ?hq; (case hq => walk_at "hpLo"))
  | (refine' sq_l (by assumption) ?hq; (case hq => walk_at "hpLo"))
  | fail)
local macro_rules | `(tactic| walk_at "hpL") => `(tactic| with_reducible first
  | (refine' SqL.of ?hq; (case hq => walk_at "hpH"))
  | walk_at "hpLo"
  | fail)
local macro_rules | `(tactic| walk_at "kit") => `(tactic| with_reducible first
  | exact kit_int_bool | exact kit_int_int | exact kit_int_tuple | exact kit_int_list | exact kit_int_str
  | exact kit_tuple_tuple | exact kit_tuple_int | exact kit_tuple_bool | exact kit_tuple_list | exact kit_tuple_str
  | exact kit_bool_bool | exact kit_bool_int | exact kit_bool_tuple | exact kit_bool_list | exact kit_bool_str
  | exact kit_str_str | exact kit_str_int | exact kit_str_bool | exact kit_str_tuple | exact kit_str_list
  | exact kit_NoneType_int | exact kit_NoneType_bool | exact kit_NoneType_tuple | exact kit_NoneType_list | exact kit_NoneType_str
  | exact kit_list_list | exact kit_list_tuple | exact kit_list_int | exact kit_list_bool | exact kit_list_str
  | fail)
local macro_rules | `(tactic| walk_at "call") => `(tactic| fail)
local macro_rules | `(tactic| walk_at "s0") => `(tactic| with_reducible first
  | refine g_seq ?_ | refine g_asg ?_ | refine g_name ?_ | refine g_ifS ?_ | refine g_ret ?_ | refine g_retN ?_ | refine g_next ?_
  | refine g_par ?_ | refine g_parE ?_ | refine g_drop ?_
  | refine g_c ?_ | refine g_op ?_ | refine g_un ?_ | refine g_cb ?_ | refine g_call ?_ | refine g_nil ?_ | refine g_cons ?_ | refine g_tup ?_ | refine g_lst ?_
  | refine g_test ?_ | refine g_B ?_ | refine g_blF ?_ | refine g_and ?_ | refine g_or ?_ | refine g_not ?_ | refine g_andV ?_ | refine g_orV ?_ | refine g_notV ?_ | refine g_if ?_
  | refine iteT ?_ | refine iteF ?_
  | refine g_chain ?_ | refine g_sl ?_ | refine g_noPart ?_ | refine g_part ?_ | refine g_partI ?_ | refine g_slS ?_ ?side | refine g_M1 ?_ | refine g_M1s ?_ | refine g_starts ?_ | refine g_bm ?_ | refine g_bm0 ?_ | refine g_tyS ?_
  | refine g_Fs ?_ | refine g_JsN ?_ | refine g_JsC ?_ | refine g_JsE ?_ ?side | refine g_fmt ?_ | refine g_fmtI ?_ ?side | refine g_fmtS ?_ ?side | refine g_iList ?_ | refine g_iTup ?_ | refine g_iStr ?_ | refine g_iStrE ?_ | refine g_iRng1 ?_ | refine g_iRng1E ?_ ?side1 ?side2 | refine g_yes ?_ | refine g_ckw ?_ | refine g_dget ?_ | refine g_dictZip ?_ | refine g_gCons ?_ | refine g_gNil ?_ | refine g_revL ?_ | refine g_for ?_ | refine g_lc ?_ | refine g_addS ?_ ?side | refine g_str ?_ ?side | refine g_lenS ?_ ?side
  | refine g_rI0 ?_ | refine g_rI ?_ ?side | refine g_rU ?_ | refine g_abs ?_ | refine g_int ?_ | refine g_intB ?_ | refine g_gcd ?_ | refine g_inS ?_ | refine g_isN0 ?_ | refine g_notN0 ?_
  | fail)
local macro_rules | `(tactic| walk_at "s1") => `(tactic| first
  | ((with_reducible refine' g_var ?h ?_); (case h => exact rfl))
  | ((with_reducible refine' g_new ?h ?_); (case h => exact (by simp only [List.length_cons, List.length_nil]; decide)); intro tnew htnew)
  | ((with_reducible refine' iteDT ?h ?_); (case h => first | exact rfl | assumption))
  | ((with_reducible refine' iteNT ?h ?_); (case h => first | exact rfl | assumption))
  | ((with_reducible refine' iteDF ?h ?_); (case h => first | assumption | (intro z; cases z)))
  | ((with_reducible refine' iteNF ?h ?_); (case h => first | assumption | (intro z; cases z)))
  | ((with_reducible refine' g_eq ?_ ?h); (case h => exact rfl))
  | ((with_reducible refine' g_ne ?_ ?h); (case h => exact rfl))
  | ((with_reducible refine' g_ixT ?_ ?h ?e); (case h => walk_at "hpT"); (case e => first | exact rfl | exact atI_0 | exact atI_1))
  | ((with_reducible refine' g_ixL ?_ ?h ?e); (case h => walk_at "hpL"); (case e => first | exact rfl | exact atI_0 | exact atI_1))
  | ((with_reducible refine' g_isi_int ?_ ?h); (case h => walk_at "kit"))
  | ((with_reducible refine' g_isi_str ?_ ?h); (case h => walk_at "kit"))
  | ((with_reducible refine' g_isi_bl ?_ ?h); (case h => walk_at "kit"))
  | ((with_reducible refine' g_isi_non ?_ ?h); (case h => walk_at "kit"))
  | ((with_reducible refine' g_isi_t ?_ ?t ?h); (case t => walk_at "hpT"); (case h => walk_at "kit"))
  | ((with_reducible refine' g_isi_l ?_ ?t ?h ?l); (case l => walk_at "hpH"); (case t => walk_at "hpL"); (case h => walk_at "kit"))
  | ((with_reducible refine' g_lenT ?_ ?h); (case h => walk_at "hpT"))
  | ((with_reducible refine' g_lenL ?_ ?h); (case h => walk_at "hpL"))
  | ((with_reducible refine' g_split ?_ ?h ?side); (case h => exact rfl); intro pnew hpnew)
  | ((with_reducible refine' g_slL ?h ?_); (case h => walk_at "hpL"); intro pnew hpnew)
  | ((with_reducible refine' g_iListE ?_ ?h); (case h => walk_at "hpL"))
  | ((with_reducible refine' g_iTupE ?_ ?h); (case h => walk_at "hpT"))
  | ((with_reducible refine' g_tyL ?_ ?h); (case h => walk_at "hpL"))
  | ((with_reducible refine' g_join ?_ ?h ?side); (case h => walk_at "hpL"))
  | ((with_reducible refine' g_append ?_ ?h ?side); (case h => walk_at "hpH"))
  | ((with_reducible refine' g_all ?_ ?h); (case h => walk_at "hpL"))
  | ((with_reducible refine' g_gTup ?_ ?h ?n); (case h => walk_at "hpT"); (case n => exact rfl))
  | ((with_reducible refine' g_revLE ?h ?_); (case h => walk_at "hpL"); intro pnew hpnew)
  | ((with_reducible refine' g_isN1 ?_ ?h); (case h => first | assumption | (intro z; cases z)))
  | ((with_reducible refine' g_notN1 ?_ ?h); (case h => first | assumption | (intro z; cases z)))
  | walk_at "call"
  | ((with_reducible refine' iteBT ?h ?_); (case h => first | assumption | exact rfl))
  | ((with_reducible refine' iteBF ?h ?_); (case h => first | assumption | exact rfl))
  | fail)
local macro_rules | `(tactic| walk_at "nrm") => `(tactic| simp only [Bool.not_true, Bool.not_false, decide_eq_true_eq, decide_true, decide_false, Bool.true_and, Bool.false_and, Bool.and_true, Bool.and_false, V.int.injEq, V.bl.injEq, V.str.injEq, List.length_cons, List.length_nil, Bool.not_eq_true', decide_eq_false_iff_not, Int.not_lt, Int.not_le, reduceCtorEq, not_false_eq_true, not_true_eq_false, Decidable.not_not] at *)
local macro_rules | `(tactic| walk_at "sp") => `(tactic| ((with_reducible refine ite2 (fun c => ?_) (fun c => ?_)) <;> (try simp only [decide_eq_true_eq, Bool.not_eq_true', decide_eq_false_iff_not, V.int.injEq, V.bl.injEq, V.str.injEq, Int.not_lt, Int.not_le, reduceCtorEq, Decidable.not_not, Bool.false_eq_true, Bool.true_eq_false] at c) <;> (try (exfalso; omega))))
local macro_rules | `(tactic| walk_at "s") => `(tactic| first | walk_at "s0" | walk_at "s1" | fail)
local macro_rules | `(tactic| walk_at "go") => `(tactic| (try dsimp only [cxK, cxK']); repeat' walk_at "s")
local macro_rules | `(tactic| walk_at "gos") => `(tactic| ((try dsimp only [cxK, cxK']); repeat' (first | walk_at "s" | walk_at "sp" | fail)))

local macro_rules | `(tactic| walk_at "hpNo") => `(tactic| with_reducible first
  | assumption
  | (refine' Nm.ofPr ?hq; (case hq => assumption))
  | (refine' Nm.same (same_new (by assumption)) ?hq; (case hq => walk_at "hpNo"))
  | (refine' Nm.same (by assumption) ?hq; (case hq => walk_at "hpNo"))
  | fail)
local macro_rules | `(tactic| walk_at "hpN") => `(tactic| with_reducible first
  | walk_at "hpNo"
  | (refine' Nm.of ?hq; (case hq => walk_at "hpH"))
  | fail)
local macro_rules | `(tactic| walk_at "hpPo") => `(tactic| with_reducible first
  | assumption
  | (refine' Pr.same (same_new (by assumption)) ?hq; (case hq => walk_at "hpPo"))
  | (refine' Pr.same (by assumption) ?hq; (case hq => walk_at "hpPo"))
  | fail)
local macro_rules | `(tactic| walk_at "hpP") => `(tactic| with_reducible first
  | walk_at "hpPo"
  | (refine' Pr.of ?hq; (case hq => walk_at "hpH"))
  | fail)
local macro_rules | `(tactic| walk_at "hpDo") => `(tactic| with_reducible first
  | assumption
  | exact Dq.int _ | exact Dq.bl _ | exact Dq.str _ | exact Dq.non
  | (refine' Dq.same (same_new (by assumption)) ?hq; (case hq => walk_at "hpDo"))
  | (refine' Dq.same (by assumption) ?hq; (case hq => walk_at "hpDo"))
  | fail)
local macro_rules | `(tactic| walk_at "hpD") => `(tactic| with_reducible first
  | walk_at "hpDo"
  | fail)

local macro_rules | `(tactic| walk_at "hpM") => `(tactic| with_reducible first
  | assumption
  | (refine' mk_new ?hn ?hB; (case hn => assumption); (case hB => walk_at "hpB"))
  | (refine' mk_tup ?hn ?hB; (case hn => assumption); (case hB => walk_at "hpB"))
  | (refine' same_at (mk_upd (by assumption)) ?hq; (case hq => walk_at "hpM"))
  | (refine' same_at (show Same (delH _ _) (delH _ _) by assumption) ?hq; (case hq => walk_at "hpM"))
  | (refine' same_at (mk_mono (by assumption)) ?hq; (case hq => walk_at "hpM"))
  | fail)
local macro_rules | `(tactic| walk_at "hpSM") => `(tactic| with_reducible first
  | exact Same.refl _
  | assumption
  | (refine' Same.trans ?hq (mk_upd (by assumption)); (case hq => walk_at "hpSM"))
  | (refine' Same.trans ?hq (show Same (delH _ _) (delH _ _) by assumption); (case hq => walk_at "hpSM"))
  | (refine' Same.trans ?hq (mk_mono (by assumption)); (case hq => walk_at "hpSM"))
  | fail)
local macro_rules | `(tactic| walk_at "hpB") => `(tactic| with_reducible first
  | assumption
  | (refine' bag_upd ?hq (by assumption); (case hq => walk_at "hpB"))
  | (refine' bag_same ?hq (by assumption); (case hq => walk_at "hpB"))
  | fail)
local macro_rules | `(tactic| walk_at "hpHo") => `(tactic| with_reducible first
  | assumption
  | exact upd_same
  | (refine' same_at (same_new (by assumption)) ?hq; (case hq => walk_at "hpHo"))
  | (refine' same_at (by assumption) ?hq; (case hq => walk_at "hpHo"))
  | fail)
local macro_rules | `(tactic| walk_at "hpH") => `(tactic| with_reducible first
  | walk_at "hpHo"
  | (refine' same_at mk_same ?hq; (case hq => walk_at "hpM"))
  | fail)
local macro_rules | `(tactic| walk_at "hpNo") => `(tactic| with_reducible first
  | assumption
  | (refine' Nm.ofPr ?hq; (case hq => assumption))
  | (refine' Nm.same (same_new (by assumption)) ?hq; (case hq => walk_at "hpNo"))
  | (refine' Nm.same (by assumption) ?hq; (case hq => walk_at "hpNo"))
  | fail)
local macro_rules | `(tactic| walk_at "hpNMo") => `(tactic| with_reducible first
  | assumption
  | (refine' Nm.ofPr ?hq; (case hq => assumption))
  | (refine' Nm.same (mk_upd (by assumption)) ?hq; (case hq => walk_at "hpNMo"))
  | (refine' Nm.same (show Same (delH _ _) (delH _ _) by assumption) ?hq; (case hq => walk_at "hpNMo"))
  | (refine' Nm.same (mk_mono (by assumption)) ?hq; (case hq => walk_at "hpNMo"))
  | fail)
local macro_rules | `(tactic| walk_at "hpNM") => `(tactic| with_reducible first
  | walk_at "hpNMo"
  | (refine' Nm.of ?hq; (case hq => walk_at "hpM"))
  | fail)
local macro_rules | `(tactic| walk_at "hpN") => `(tactic| with_reducible first
  | walk_at "hpNo"
  | (refine' Nm.same mk_same ?hq; (case hq => walk_at "hpNMo"))
  | (refine' Nm.of ?hq; (case hq => walk_at "hpH"))
  | fail)
local macro_rules | `(tactic| walk_at "hpPo") => `(tactic| with_reducible first
  | assumption
  | (refine' Pr.same (same_new (by assumption)) ?hq; (case hq => walk_at "hpPo"))
  | (refine' Pr.same (by assumption) ?hq; (case hq => walk_at "hpPo"))
  | fail)
local macro_rules | `(tactic| walk_at "hpPMo") => `(tactic| with_reducible first
  | assumption
  | (refine' Pr.same (mk_upd (by assumption)) ?hq; (case hq => walk_at "hpPMo"))
  | (refine' Pr.same (show Same (delH _ _) (delH _ _) by assumption) ?hq; (case hq => walk_at "hpPMo"))
  | (refine' Pr.same (mk_mono (by assumption)) ?hq; (case hq => walk_at "hpPMo"))
  | fail)
local macro_rules | `(tactic| walk_at "hpPM") => `(tactic| with_reducible first
  | walk_at "hpPMo"
  | (refine' Pr.of ?hq; (case hq => walk_at "hpM"))
  | fail)
local macro_rules | `(tactic| walk_at "hpP") => `(tactic| with_reducible first
  | walk_at "hpPo"
  | (refine' Pr.same mk_same ?hq; (case hq => walk_at "hpPMo"))
  | (refine' Pr.of ?hq; (case hq => walk_at "hpH"))
  | fail)
local macro_rules | `(tactic| walk_at "hpDo") => `(tactic| with_reducible first
  | assumption
  | exact Dq.int _ | exact Dq.bl _ | exact Dq.str _ | exact Dq.non
  | (refine' Dq.same (same_new (by assumption)) ?hq; (case hq => walk_at "hpDo"))
  | (refine' Dq.same (by assumption) ?hq; (case hq => walk_at "hpDo"))
  | fail)
local macro_rules | `(tactic| walk_at "hpDMo") => `(tactic| with_reducible first
  | assumption
  | exact Dq.int _ | exact Dq.bl _ | exact Dq.str _ | exact Dq.non
  | (refine' Dq.same (mk_upd (by assumption)) ?hq; (case hq => walk_at "hpDMo"))
  | (refine' Dq.same (show Same (delH _ _) (delH _ _) by assumption) ?hq; (case hq => walk_at "hpDMo"))
  | (refine' Dq.same (mk_mono (by assumption)) ?hq; (case hq => walk_at "hpDMo"))
  | fail)
local macro_rules | `(tactic| walk_at "hpDM") => `(tactic| with_reducible first
  | walk_at "hpDMo"
  | fail)
local macro_rules | `(tactic| walk_at "hpD") => `(tactic| with_reducible first
  | walk_at "hpDo"
  | (refine' Dq.same mk_same ?hq; (case hq => walk_at "hpDMo"))
  | fail)
local macro_rules | `(tactic| walk_at "call") => `(tactic| first
  | ((with_reducible refine' sp_draw ?_ ?h ?side1 ?side2); (case h => walk_at "hpB"); intro idraw Hd' hi0 hi1 sd' bd')
  | fail)

local macro_rules | `(tactic| walk_at "hpPoo") => `(tactic| with_reducible first
  | assumption
  | (refine' Pool.same (same_new (by assumption)) ?hq; (case hq => walk_at "hpPoo"))
  | (refine' Pool.same (by assumption) ?hq; (case hq => walk_at "hpPoo"))
  | fail)
local macro_rules | `(tactic| walk_at "hpPoM") => `(tactic| with_reducible first
  | assumption
  | (refine' Pool.same (mk_upd (by assumption)) ?hq; (case hq => walk_at "hpPoM"))
  | (refine' Pool.same (show Same (delH _ _) (delH _ _) by assumption) ?hq; (case hq => walk_at "hpPoM"))
  | (refine' Pool.same (mk_mono (by assumption)) ?hq; (case hq => walk_at "hpPoM"))
  | fail)
local macro_rules | `(tactic| walk_at "hpPo") => `(tactic| with_reducible first
  | walk_at "hpPoo"
  | (refine' Pool.same mk_same ?hq; (case hq => walk_at "hpPoM"))
  | fail)

local macro_rules | `(tactic| walk_at "dqh") => `(tactic| first
  | exact Dq.int _
  | exact Dq.bl _
  | exact Dq.str _
  | exact Dq.non
  | exact DqAll.nil
  | (refine' DqAll.cons ?h1 ?h2; (case h1 => walk_at "dqh"); (case h2 => walk_at "dqh"))
  | (refine' Dq.tup ?h1 ?h2; (case h1 => walk_at "hpH"); (case h2 => walk_at "dqh"))
  | (refine' Dq.lst ?h1 ?h2; (case h1 => walk_at "hpH"); (case h2 => walk_at "dqh"))
  | walk_at "hpD"
  | fail)
local macro_rules | `(tactic| walk_at "call") => `(tactic| first
  | ((with_reducible refine' sp_goodK ?_ ?B); (case B => walk_at "hpB"); intro lgd vgd tgd ngd dgd Hgd ddg hlg hdg hog heg hkg hfg htg hbg sgd bgd)
  | ((with_reducible refine' sp_drawn ?_ ?B); (case B => walk_at "hpB"); intro tq nq dq Hq' hq' hqs sq' bq')
  | ((with_reducible refine' sp_nearK ?_ ?h ?B ?hs); (case h => walk_at "hpM"); (case B => walk_at "hpB"); (case hs => assumption); intro vnr Hnr ddn hdn hon hen hkn hfn snr bnr)
  | ((with_reducible refine' sp_exactD ?_ ?hx ?ho ?he); (case hx => walk_at "hpD"); (case ho => assumption); (case he => assumption); intro tex Hex sex hex)
  | ((with_reducible refine' sp_numD ?_ ?hx); (case hx => walk_at "hpD"))
  | ((with_reducible refine' sp_ownD ?_ ?hx ?hf); (case hx => walk_at "hpD"); (case hf => assumption); intro Hwn swn)
  | ((with_reducible refine' sp_refD ?_ ?hx ?ho ?he ?hk ?hf); (case hx => walk_at "hpD"); (case ho => assumption); (case he => assumption); (case hk => assumption); (case hf => assumption); intro lrf Hrf srf hrf)
  | ((with_reducible refine' sp_likeK ?_ ?hx ?hy ?side); (case hx => walk_at "dqh"); (case hy => walk_at "dqh"); intro Hlk slk)
  | ((with_reducible refine' sp_runsK ?_ ?h ?hp ?B ?side1 ?side2); (case h => walk_at "hpM"); (case hp => walk_at "hpPoM"); (case B => walk_at "hpB"); intro Hrn srn brn)
  | ((with_reducible refine' sp_listsK ?_ ?h ?hp ?B ?side1 ?side2); (case h => walk_at "hpM"); (case hp => walk_at "hpPoM"); (case B => walk_at "hpB"); intro Hrn srn brn)
  | ((with_reducible refine' g_catK ?_ ?h1 ?h2 ?side); (case h1 => walk_at "hpH"); (case h2 => walk_at "hpH"); intro pca npca)
  | (with_reducible refine g_callK ?_)
  | (with_reducible refine g_kapp ?_)
  | fail)
section
variable {P : Program} {w : World} {K : Fg} {mg : Str → Option Value} {base : Heap} {f f1 f2 f3 f4 f5 f6 f7 f8 f9 f10 f11 f12 : Addr} {fd : FuncData}
theorem ok_law (F : Fun K "law" "law" s_law f fd) (T : Blt mg) (D_l_bag : Df P w K mg base 1 "_law_bag" f1 ["_law_script"] (spBag K)) (D_l_good : Df P w K mg base 4 "_law_good" f2 ["_law_bag_here"] spGood) (D_l_like : Df P w K mg base 5 "_law_like" f3 ["_law_found", "_law_due"] (spLike 4))
    (D_exact : DfK P w K mg base 3 "exact" f4 ["value"] ["value"] gApp spExact) (D_is_number : Df P w K mg base 3 "is_number" f5 ["value"] spNum) (D_l_is_own : Df P w K mg base 3 "_law_is_own" f6 ["_law_thing"] spOwn) (D_l_near : Df P w K mg base 4 "_law_near" f7 ["_law_bag_here", "_law_one"] spNear)
    (D_l_drawn : Df P w K mg base 3 "_law_drawn" f8 ["_law_bag_here"] spDrawn) (D_l_refused : Df P w K mg base 4 "_law_refused" f9 ["_law_thing"] spRefused) (D_l_runs : Df P w K mg base 6 "_law_runs" f10 ["_law_bag_here", "_law_pool"] spRuns) (D_l_lists : Df P w K mg base 6 "_law_lists" f11 ["_law_bag_here", "_law_pool"] spLists) : FnOk P w K mg base CX0 7 f fd ["_law_script"] (spLaw K) := by
  obtain ⟨_, G_l_bag, B_l_bag⟩ := D_l_bag.ok
  obtain ⟨_, G_l_good, B_l_good⟩ := D_l_good.ok
  obtain ⟨_, G_l_like, B_l_like⟩ := D_l_like.ok
  obtain ⟨_, G_exact, KB_exact⟩ := D_exact.ok
  obtain ⟨_, G_is_number, B_is_number⟩ := D_is_number.ok
  obtain ⟨_, G_l_is_own, B_l_is_own⟩ := D_l_is_own.ok
  obtain ⟨_, G_l_near, B_l_near⟩ := D_l_near.ok
  obtain ⟨_, G_l_drawn, B_l_drawn⟩ := D_l_drawn.ok
  obtain ⟨_, G_l_refused, B_l_refused⟩ := D_l_refused.ok
  obtain ⟨_, G_l_runs, B_l_runs⟩ := D_l_runs.ok
  obtain ⟨_, G_l_lists, B_l_lists⟩ := D_l_lists.ok
  refine F.ok sc_law (fun vs H Q E h => ?_) (fun cdv A outer s H vs Q E hr h => ?_)
  · obtain ⟨a, ns, rfl, _⟩ := h
    rfl
  · obtain ⟨a, ns, rfl, hS, k⟩ := h
    refine ⟨_, (pss_cons (ps_par (i := 1) (j := 2) rfl sc_law.nd rfl rfl (by decide) rfl rfl (pa_cons (pe_call G_l_bag (hr.mono (by decide)) (by rfl) D_l_bag.g D_l_bag.kp B_l_bag .nil pass0 (pa_cons (pv 0) pa_nil)) (pa_cons (pe_lst (pa_cons (pe_tup (pa_cons pe_int (pa_cons pe_int pa_nil))) (pa_cons (pe_tup (pa_cons pe_int (pa_cons pe_int pa_nil))) pa_nil))) pa_nil)) rfl)
      (pss_cons (ps_for PassesOwn.never rfl (pi_range1 (by rfl) T.n_range (pa_cons pe_int pa_nil)) (pg_name (i := 3) sc_law.nd rfl (.inl rfl))
      (pss_cons (ps_set (i := 4) sc_law.nd rfl (.inl rfl) (pe_call G_l_good (hr.mono (by decide)) (by rfl) D_l_good.g D_l_good.kp B_l_good .nil pass0 (pa_cons (pv 1) pa_nil)))
      (pss_cons (ps_if (pt_not (pt_val (pe_call G_l_like (hr.mono (by decide)) (by rfl) D_l_like.g D_l_like.kp B_l_like .nil pass0 (pa_cons (pe_lst (pa_cons (pe_callK0 G_exact (hr.mono (by decide)) (by rfl) D_exact.g D_exact.kp KB_exact pass0 (pk_cons (pe_ix (ix_seqK K) (pv 4) pe_int (fun _ _ => rfl)) pk_nil)) (pa_cons (pe_call G_is_number (hr.mono (by decide)) (by rfl) D_is_number.g D_is_number.kp B_is_number .nil pass0 (pa_cons (pe_ix (ix_seqK K) (pv 4) pe_int (fun _ _ => rfl)) pa_nil)) pa_nil))) (pa_cons (pe_lst (pa_cons (pe_ix (ix_seqK K) (pv 4) pe_int (fun _ _ => rfl)) (pa_cons (pe_call G_l_is_own (hr.mono (by decide)) (by rfl) D_l_is_own.g D_l_is_own.kp B_l_is_own .nil pass0 (pa_cons (pe_ix (ix_seqK K) (pv 4) pe_int (fun _ _ => rfl)) pa_nil)) pa_nil))) pa_nil)))))
      (pss_one (ps_ret pe_bl)) pss_nil)
      (pss_cons (ps_set (i := 2) sc_law.nd rfl (.inl rfl) (pe_op op_cat (pv 2) (pe_lst (pa_cons (pe_ix (ix_seqK K) (pv 4) pe_int (fun _ _ => rfl)) pa_nil))))
      (pss_cons (ps_set (i := 5) sc_law.nd rfl (.inl rfl) (pe_call G_l_near (hr.mono (by decide)) (by rfl) D_l_near.g D_l_near.kp B_l_near .nil pass0 (pa_cons (pv 1) (pa_cons (pe_call G_l_drawn (hr.mono (by decide)) (by rfl) D_l_drawn.g D_l_drawn.kp B_l_drawn .nil pass0 (pa_cons (pv 1) pa_nil)) pa_nil))))
      (pss_cons (ps_set (i := 6) sc_law.nd rfl (.inl rfl) (pe_call G_l_refused (hr.mono (by decide)) (by rfl) D_l_refused.g D_l_refused.kp B_l_refused .nil pass0 (pa_cons (pv 5) pa_nil)))
      (pss_one (ps_if (pt_not (pt_val (pe_call G_l_like (hr.mono (by decide)) (by rfl) D_l_like.g D_l_like.kp B_l_like .nil pass0 (pa_cons (pe_lst (pa_cons (pv 6) (pa_cons (pe_call G_is_number (hr.mono (by decide)) (by rfl) D_is_number.g D_is_number.kp B_is_number .nil pass0 (pa_cons (pv 5) pa_nil)) pa_nil))) (pa_cons (pe_lst (pa_cons (pe_lst (pa_cons (pv 5) pa_nil)) (pa_cons (pe_call G_l_is_own (hr.mono (by decide)) (by rfl) D_l_is_own.g D_l_is_own.kp B_l_is_own .nil pass0 (pa_cons (pv 5) pa_nil)) pa_nil))) pa_nil)))))
      (pss_one (ps_ret pe_bl)) pss_nil))))))))
      (pss_cons (ps_for PassesOwn.never rfl (pi_range1 (by rfl) T.n_range (pa_cons pe_int pa_nil)) (pg_name (i := 3) sc_law.nd rfl (.inl rfl))
      (pss_one (ps_set (i := 2) sc_law.nd rfl (.inl rfl) (pe_op op_cat (pv 2) (pe_lst (pa_cons (pe_call G_l_drawn (hr.mono (by decide)) (by rfl) D_l_drawn.g D_l_drawn.kp B_l_drawn .nil pass0 (pa_cons (pv 1) pa_nil)) pa_nil))))))
      (pss_one (ps_ret (pe_and (pe_call G_l_runs (hr.mono (by decide)) (by rfl) D_l_runs.g D_l_runs.kp B_l_runs .nil pass0 (pa_cons (pv 1) (pa_cons (pv 2) pa_nil))) (pe_one (pe_call G_l_lists (hr.mono (by decide)) (by rfl) D_l_lists.g D_l_lists.kp B_l_lists .nil pass0 (pa_cons (pv 1) (pa_cons (pv 2) pa_nil)))))))))), ?_⟩
    walk_at "go"
    refine ⟨a, ns, rfl, hS, fun b c H1 s1 B1 => ?_⟩
    walk_at "go"
    all_goals try decide
    rename_i t0 nt0 t1 nt1 l nl
    have hl : delH (upd (upd (upd H1 t0 (.tup [.int 0, .int 1])) t1 (.tup [.int 1, .int 2])) l (.lst [.ref t0, .ref t1])) b l = some (.lst [.ref t0, .ref t1]) := by walk_at "hpM"
    have B2 : Bag (upd (upd (upd H1 t0 (.tup [.int 0, .int 1])) t1 (.tup [.int 1, .int 2])) l (.lst [.ref t0, .ref t1])) b c := by walk_at "hpB"
    have ht0 : delH (upd (upd (upd H1 t0 (.tup [.int 0, .int 1])) t1 (.tup [.int 1, .int 2])) l (.lst [.ref t0, .ref t1])) b t0 = some (.tup [.int 0, .int 1]) := by walk_at "hpM"
    have ht1 : delH (upd (upd (upd H1 t0 (.tup [.int 0, .int 1])) t1 (.tup [.int 1, .int 2])) l (.lst [.ref t0, .ref t1])) b t1 = some (.tup [.int 1, .int 2]) := by walk_at "hpM"
    generalize upd (upd (upd H1 t0 (.tup [.int 0, .int 1])) t1 (.tup [.int 1, .int 2])) l (.lst [.ref t0, .ref t1]) = H2 at hl B2 ht0 ht1
    have hp : Pool (delH H2 b) [.ref t0, .ref t1] := fun v hv => by
      simp only [List.mem_cons, List.not_mem_nil, or_false] at hv
      rcases hv with rfl | rfl
      · exact ⟨t0, 0, 1, rfl, ht0, ⟨⟨by decide, by decide⟩, by decide, by decide⟩⟩
      · exact ⟨t1, 1, 2, rfl, ht1, ⟨⟨by decide, by decide⟩, by decide, by decide⟩⟩
    refine for_range (lo := 0) (n := 6) (fun i σ H' => ∃ l' ys v3 v4 v5 v6, σ = [some (.ref a), some (.ref b), some (.ref l'), v3, v4, v5, v6] ∧ Bag H' b c ∧ delH H' b l' = some (.lst ys) ∧ Pool (delH H' b) ys ∧ ys.length = 2 + i)
      ⟨l, _, none, none, none, none, rfl, B2, hl, hp, rfl⟩ (fun i σ H3 hi h => ?_) (fun σ H3 h => ?_)
    · obtain ⟨l', ys, v3, v4, v5, v6, rfl, B3, hl3, hp3, hyl⟩ := h
      walk_at "go"
      all_goals first
        | exact ok_l1
        | exact ok_l2 (by assumption)
        | (rw [List.length_singleton]; omega)
        | skip
      have hb : BigQ _ := ‹Big _›
      exact ⟨_, ys ++ [.ref _], _, _, _, _, rfl, by walk_at "hpB", by walk_at "hpM", Pool.snoc (by walk_at "hpPoM") (by walk_at "hpM") hb, by rw [List.length_append, List.length_singleton]; omega⟩
    · obtain ⟨l', ys, v3, v4, v5, v6, rfl, B3, hl3, hp3, hyl⟩ := h
      walk_at "go"
      all_goals try decide
      refine for_range (lo := 0) (n := 4) (fun i σ H' => ∃ l' ys v3 v4 v5 v6, σ = [some (.ref a), some (.ref b), some (.ref l'), v3, v4, v5, v6] ∧ Bag H' b c ∧ delH H' b l' = some (.lst ys) ∧ Pool (delH H' b) ys ∧ ys.length = 8 + i)
        ⟨l', ys, v3, v4, v5, v6, rfl, B3, hl3, hp3, by omega⟩ (fun i σ H4 hi h => ?_) (fun σ H4 h => ?_)
      · obtain ⟨l', ys, v3, v4, v5, v6, rfl, B3, hl3, hp3, hyl⟩ := h
        walk_at "go"
        all_goals first
          | (rw [List.length_singleton]; omega)
          | skip
        have hb : BigQ _ := (‹Small _›).big
        exact ⟨_, ys ++ [.ref _], _, _, _, _, rfl, by walk_at "hpB", by walk_at "hpM", Pool.snoc (by walk_at "hpPoM") (by walk_at "hpM") hb, by rw [List.length_append, List.length_singleton]; omega⟩
      · obtain ⟨l', ys, v3, v4, v5, v6, rfl, B3, hl3, hp3, hyl⟩ := h
        walk_at "go"
        all_goals first
          | omega
          | skip
        exact k _
end
end Ko


namespace Ko
open PySem L2 PySem.Spec PyProof.Rows Xm L2H
theorem passAt0 {X : Cx} {σ : Sg} : PassesAt CX0 X σ L2.E0 := fun pins H s e s' I h => pass0 pins σ H s e s' I h
theorem fnH_of {P : Program} {w : World} {K : PySem.W.Frag} {mg : Str → Option Value} {base : Heap} {k : Nat} {f : Addr} {x qual : Str} {st : Stmt} {fd : FuncData} {N ps : List Str} {sp : Sp} (F : Fun K x qual st f fd) (S : FnScope N ps (defScope st)) (len : ∀ vs H Q E, sp vs H Q E → vs.length = ps.length)
    (body : ∀ (cdv : Value) (A : Around) (outer : List Env) (s : Shared) (H : Hp) (vs : List V) (Q : VK) (E : XK) (p : Addr × Obj), Hot1 A p → RoomH k (A.deeper (envOfC qual (defScope st) s.heap.objs.size f cdv)) → sp vs H Q E →
      ∃ t, PSs (cxH CX0 P w K mg base N qual (defScope st) f cdv A outer s H E p) (defBody st) t ∧ t { nx := fun _ H' => Q .non H', rt := Q } (L2.start N vs) H) : FnH P w K mg base CX0 (k + 1) f fd ps sp := by
  obtain ⟨oc, od, kV, doc, pm, an, cdv, ct, osl, rfl, lk, hcd⟩ := F.ex
  exact fn_ofH lk hcd S len fun A outer s H vs Q E p hot hr h => body cdv A outer s H vs Q E p hot hr h
def spIntH : Sp := fun vs H Q _ => ∃ n : Int, vs = [.int n, .int n] ∧ ∀ H', Same H H' → Q (.bl true) H'
def spPairH : Sp := fun vs H Q _ => ∃ (a b : Addr) (n d : Int), vs = [.ref a, .ref b] ∧ H a = some (.tup [.int n, .int d]) ∧ H b = some (.tup [.int n, .int d]) ∧ ∀ H', Same H H' → Q (.bl true) H'
theorem g_iZipH {K : Fg} {ta : TA} {σ : Sg} {H : Hp} {R : It → Hp → Prop} (q : ta σ H fun vs H1 => ∃ a b xs ys, vs = [.ref a, .ref b] ∧ SqT K H1 a xs ∧ SqT K H1 b ys ∧ R (RZ.ItzT K a b) H1) : iZipH K ta σ H R := q
section
variable {H : Hp} {Q : VK} {E : XK}
theorem sp_intH {x y : V} {n : Int} (k : ∀ H', Same H H' → Q (.bl true) H') (hx : x = .int n) (hy : y = .int n) : spIntH [x, y] H Q E := ⟨n, by rw [hx, hy], k⟩
end

local macro_rules | `(tactic| walk_at "hpS") => `(tactic| with_reducible first
  | exact Same.refl _
  | assumption
  | (refine' Same.trans ?hq (same_new (by assumption)); (case hq => walk_at "hpS"))
  | (refine' Same.trans ?hq (by assumption); (case hq => walk_at "hpS"))
  | fail)
local macro_rules | `(tactic| walk_at "hpH") => `(tactic| with_reducible first
  | assumption
  | exact upd_same
  | (refine' same_at (same_new (by assumption)) ?hq; (case hq => walk_at "hpH"))
  | (refine' same_at (by assumption) ?hq; (case hq => walk_at "hpH"))
  | fail)
local macro_rules | `(tactic| walk_at "hpTo") => `(tactic| with_reducible first
  | assumption
  | (refine' sq_t (same_new (by assumption)) ?hq; (case hq => walk_at "hpTo"))
  | (refine' sq_t (by assumption) ?hq; (case hq => walk_at "hpTo"))
  | fail)
local macro_rules | `(tactic| walk_at "hpT") => `(tactic| with_reducible first
  | (refine' SqT.of ?hq; (case hq => walk_at "hpH"))
  | walk_at "hpTo"
  | fail)
local macro_rules | `(tactic| walk_at "hpLo") => `(tactic| with_reducible first
  | assumption
  | (refine' sq_l (same_new (by assumption)) ?hq; (case hq => walk_at "hpLo"))
  | (refine' sq_l (by assumption) ?hq; (case hq => walk_at "hpLo"))
  | fail)
local macro_rules | `(tactic| walk_at "hpL") => `(tactic| with_reducible first
  | (refine' SqL.of ?hq; (case hq => walk_at "hpH"))
  | walk_at "hpLo"
  | fail)
local macro_rules | `(tactic| walk_at "kit") => `(tactic| with_reducible first
  | exact kit_int_bool | exact kit_int_int | exact kit_int_tuple | exact kit_int_list | exact kit_int_str
  | exact kit_tuple_tuple | exact kit_tuple_int | exact kit_tuple_bool | exact kit_tuple_list | exact kit_tuple_str
  | exact kit_bool_bool | exact kit_bool_int | exact kit_bool_tuple | exact kit_bool_list | exact kit_bool_str
  | exact kit_str_str | exact kit_str_int | exact kit_str_bool | exact kit_str_tuple | exact kit_str_list
  | exact kit_NoneType_int | exact kit_NoneType_bool | exact kit_NoneType_tuple | exact kit_NoneType_list | exact kit_NoneType_str
  | exact kit_list_list | exact kit_list_tuple | exact kit_list_int | exact kit_list_bool | exact kit_list_str
  | fail)
local macro_rules | `(tactic| walk_at "call") => `(tactic| fail)
local macro_rules | `(tactic| walk_at "s0") => `(tactic| with_reducible first
  | refine g_seq ?_ | refine g_asg ?_ | refine g_name ?_ | refine g_ifS ?_ | refine g_ret ?_ | refine g_retN ?_ | refine g_next ?_
  | refine g_par ?_ | refine g_parE ?_ | refine g_drop ?_
  | refine g_c ?_ | refine g_op ?_ | refine g_un ?_ | refine g_cb ?_ | refine g_call ?_ | refine g_nil ?_ | refine g_cons ?_ | refine g_tup ?_ | refine g_lst ?_
  | refine g_test ?_ | refine g_B ?_ | refine g_blF ?_ | refine g_and ?_ | refine g_or ?_ | refine g_not ?_ | refine g_andV ?_ | refine g_orV ?_ | refine g_notV ?_ | refine g_if ?_
  | refine iteT ?_ | refine iteF ?_
  | refine g_chain ?_ | refine g_sl ?_ | refine g_noPart ?_ | refine g_part ?_ | refine g_partI ?_ | refine g_slS ?_ ?side | refine g_M1 ?_ | refine g_M1s ?_ | refine g_starts ?_ | refine g_bm ?_ | refine g_bm0 ?_ | refine g_tyS ?_
  | refine g_Fs ?_ | refine g_JsN ?_ | refine g_JsC ?_ | refine g_JsE ?_ ?side | refine g_fmt ?_ | refine g_fmtI ?_ ?side | refine g_fmtS ?_ ?side | refine g_iList ?_ | refine g_iTup ?_ | refine g_iStr ?_ | refine g_iStrE ?_ | refine g_iRng1 ?_ | refine g_iRng1E ?_ ?side1 ?side2 | refine g_yes ?_ | refine g_ckw ?_ | refine g_dget ?_ | refine g_dictZip ?_ | refine g_gCons ?_ | refine g_gNil ?_ | refine g_revL ?_ | refine g_for ?_ | refine g_lc ?_ | refine g_addS ?_ ?side | refine g_str ?_ ?side | refine g_lenS ?_ ?side
  | refine g_rI0 ?_ | refine g_rI ?_ ?side | refine g_rU ?_ | refine g_abs ?_ | refine g_int ?_ | refine g_intB ?_ | refine g_gcd ?_ | refine g_inS ?_ | refine g_isN0 ?_ | refine g_notN0 ?_
  | fail)
local macro_rules | `(tactic| walk_at "s1") => `(tactic| first
  | ((with_reducible refine' g_var ?h ?_); (case h => exact rfl))
  | ((with_reducible refine' g_new ?h ?_); (case h => exact (by simp only [List.length_cons, List.length_nil]; decide)); intro tnew htnew)
  | ((with_reducible refine' iteDT ?h ?_); (case h => first | exact rfl | assumption))
  | ((with_reducible refine' iteNT ?h ?_); (case h => first | exact rfl | assumption))
  | ((with_reducible refine' iteDF ?h ?_); (case h => first | assumption | (intro z; cases z)))
  | ((with_reducible refine' iteNF ?h ?_); (case h => first | assumption | (intro z; cases z)))
  | ((with_reducible refine' g_eq ?_ ?h); (case h => exact rfl))
  | ((with_reducible refine' g_ne ?_ ?h); (case h => exact rfl))
  | ((with_reducible refine' g_ixT ?_ ?h ?e); (case h => walk_at "hpT"); (case e => first | exact rfl | exact atI_0 | exact atI_1))
  | ((with_reducible refine' g_ixL ?_ ?h ?e); (case h => walk_at "hpL"); (case e => first | exact rfl | exact atI_0 | exact atI_1))
  | ((with_reducible refine' g_isi_int ?_ ?h); (case h => walk_at "kit"))
  | ((with_reducible refine' g_isi_str ?_ ?h); (case h => walk_at "kit"))
  | ((with_reducible refine' g_isi_bl ?_ ?h); (case h => walk_at "kit"))
  | ((with_reducible refine' g_isi_non ?_ ?h); (case h => walk_at "kit"))
  | ((with_reducible refine' g_isi_t ?_ ?t ?h); (case t => walk_at "hpT"); (case h => walk_at "kit"))
  | ((with_reducible refine' g_isi_l ?_ ?t ?h ?l); (case l => walk_at "hpH"); (case t => walk_at "hpL"); (case h => walk_at "kit"))
  | ((with_reducible refine' g_lenT ?_ ?h); (case h => walk_at "hpT"))
  | ((with_reducible refine' g_lenL ?_ ?h); (case h => walk_at "hpL"))
  | ((with_reducible refine' g_split ?_ ?h ?side); (case h => exact rfl); intro pnew hpnew)
  | ((with_reducible refine' g_slL ?h ?_); (case h => walk_at "hpL"); intro pnew hpnew)
  | ((with_reducible refine' g_iListE ?_ ?h); (case h => walk_at "hpL"))
  | ((with_reducible refine' g_iTupE ?_ ?h); (case h => walk_at "hpT"))
  | ((with_reducible refine' g_tyL ?_ ?h); (case h => walk_at "hpL"))
  | ((with_reducible refine' g_join ?_ ?h ?side); (case h => walk_at "hpL"))
  | ((with_reducible refine' g_append ?_ ?h ?side); (case h => walk_at "hpH"))
  | ((with_reducible refine' g_all ?_ ?h); (case h => walk_at "hpL"))
  | ((with_reducible refine' g_gTup ?_ ?h ?n); (case h => walk_at "hpT"); (case n => exact rfl))
  | ((with_reducible refine' g_revLE ?h ?_); (case h => walk_at "hpL"); intro pnew hpnew)
  | ((with_reducible refine' g_isN1 ?_ ?h); (case h => first | assumption | (intro z; cases z)))
  | ((with_reducible refine' g_notN1 ?_ ?h); (case h => first | assumption | (intro z; cases z)))
  | walk_at "call"
  | ((with_reducible refine' iteBT ?h ?_); (case h => first | assumption | exact rfl))
  | ((with_reducible refine' iteBF ?h ?_); (case h => first | assumption | exact rfl))
  | fail)
local macro_rules | `(tactic| walk_at "nrm") => `(tactic| simp only [Bool.not_true, Bool.not_false, decide_eq_true_eq, decide_true, decide_false, Bool.true_and, Bool.false_and, Bool.and_true, Bool.and_false, V.int.injEq, V.bl.injEq, V.str.injEq, List.length_cons, List.length_nil, Bool.not_eq_true', decide_eq_false_iff_not, Int.not_lt, Int.not_le, reduceCtorEq, not_false_eq_true, not_true_eq_false, Decidable.not_not] at *)
local macro_rules | `(tactic| walk_at "sp") => `(tactic| ((with_reducible refine ite2 (fun c => ?_) (fun c => ?_)) <;> (try simp only [decide_eq_true_eq, Bool.not_eq_true', decide_eq_false_iff_not, V.int.injEq, V.bl.injEq, V.str.injEq, Int.not_lt, Int.not_le, reduceCtorEq, Decidable.not_not, Bool.false_eq_true, Bool.true_eq_false] at c) <;> (try (exfalso; omega))))
local macro_rules | `(tactic| walk_at "s") => `(tactic| first | walk_at "s0" | walk_at "s1" | fail)
local macro_rules | `(tactic| walk_at "go") => `(tactic| (try dsimp only [cxK, cxK']); repeat' walk_at "s")
local macro_rules | `(tactic| walk_at "gos") => `(tactic| ((try dsimp only [cxK, cxK']); repeat' (first | walk_at "s" | walk_at "sp" | fail)))

local macro_rules | `(tactic| walk_at "hpNo") => `(tactic| with_reducible first
  | assumption
  | (refine' Nm.ofPr ?hq; (case hq => assumption))
  | (refine' Nm.same (same_new (by assumption)) ?hq; (case hq => walk_at "hpNo"))
  | (refine' Nm.same (by assumption) ?hq; (case hq => walk_at "hpNo"))
  | fail)
local macro_rules | `(tactic| walk_at "hpN") => `(tactic| with_reducible first
  | walk_at "hpNo"
  | (refine' Nm.of ?hq; (case hq => walk_at "hpH"))
  | fail)
local macro_rules | `(tactic| walk_at "hpPo") => `(tactic| with_reducible first
  | assumption
  | (refine' Pr.same (same_new (by assumption)) ?hq; (case hq => walk_at "hpPo"))
  | (refine' Pr.same (by assumption) ?hq; (case hq => walk_at "hpPo"))
  | fail)
local macro_rules | `(tactic| walk_at "hpP") => `(tactic| with_reducible first
  | walk_at "hpPo"
  | (refine' Pr.of ?hq; (case hq => walk_at "hpH"))
  | fail)
local macro_rules | `(tactic| walk_at "hpDo") => `(tactic| with_reducible first
  | assumption
  | exact Dq.int _ | exact Dq.bl _ | exact Dq.str _ | exact Dq.non
  | (refine' Dq.same (same_new (by assumption)) ?hq; (case hq => walk_at "hpDo"))
  | (refine' Dq.same (by assumption) ?hq; (case hq => walk_at "hpDo"))
  | fail)
local macro_rules | `(tactic| walk_at "hpD") => `(tactic| with_reducible first
  | walk_at "hpDo"
  | fail)

local macro_rules | `(tactic| walk_at "call") => `(tactic| first
  | ((with_reducible refine' g_LT_int ?_ ?h); (case h => walk_at "hpH"))
  | ((with_reducible refine' g_LT_tup ?_ ?h ?a); (case a => walk_at "hpH"); (case h => walk_at "hpH"))
  | (with_reducible refine' g_iZipH ?_)
  | fail)
section
variable {P : Program} {w : World} {K : Fg} {mg : Str → Option Value} {base : Heap} {f : Addr} {fd : FuncData}
theorem ok_likeI (F : Fun K "_law_like" "_law_like" s_l_like f fd) (T : Blt mg) : FnH P w K mg base CX0 1 f fd ["_law_found", "_law_due"] spIntH := by
  refine fnH_of F sc_l_like (fun vs H Q E h => ?_) (fun cdv A outer s H vs Q E p hot hr h => ?_)
  · obtain ⟨n, rfl, _⟩ := h
    rfl
  · obtain ⟨n, rfl, k⟩ := h
    refine ⟨_, (pss_cons (ps_if (pt_val (pe_callB (cg_isiTK K) (by rfl) T.n_isinstance (by decide +kernel) (pa_cons (pv 1) (pa_cons (pe_tup (pa_cons (pe_bltn (v := .ty "list") (by rfl) T.n_list (by decide +kernel) rfl) (pa_cons (pe_bltn (v := .ty "tuple") (by rfl) T.n_tuple (by decide +kernel) rfl) pa_nil))) pa_nil)))) pss_never pss_nil)
      (pss_cons (ps_if (PW.pt (pw_or (pt_cmpR og_isN (pv 1) pe_non (nomark _)) (pw_or1 (pt_cmpR og_isN (pv 0) pe_non (nomark _)))))
      (pss_one (ps_ret (pe_and (pe_cmpR og_isN (pv 1) pe_non (nomark _)) (pe_one (pe_cmpR og_isN (pv 0) pe_non (nomark _)))))) pss_nil)
      (pss_cons (ps_if (PW.pt (pw_or (pt_val (pe_callB (cg_isiK K) (by rfl) T.n_isinstance (by decide +kernel) (pa_cons (pv 1) (pa_cons (pe_bltn (v := .ty "bool") (by rfl) T.n_bool (by decide +kernel) rfl) pa_nil)))) (pw_or1 (pt_val (pe_callB (cg_isiK K) (by rfl) T.n_isinstance (by decide +kernel) (pa_cons (pv 0) (pa_cons (pe_bltn (v := .ty "bool") (by rfl) T.n_bool (by decide +kernel) rfl) pa_nil)))))))
      (pss_one (ps_ret (pe_and (pe_callB (cg_isiK K) (by rfl) T.n_isinstance (by decide +kernel) (pa_cons (pv 0) (pa_cons (pe_bltn (v := .ty "bool") (by rfl) T.n_bool (by decide +kernel) rfl) pa_nil))) (pe_and (pe_callB (cg_isiK K) (by rfl) T.n_isinstance (by decide +kernel) (pa_cons (pv 1) (pa_cons (pe_bltn (v := .ty "bool") (by rfl) T.n_bool (by decide +kernel) rfl) pa_nil))) (pe_one (pe_cmpR op_eq (pv 0) (pv 1) (nomark _))))))) pss_nil)
      (pss_cons (ps_if (PW.pt (pw_or (pt_val (pe_callB (cg_isiTK K) (by rfl) T.n_isinstance (by decide +kernel) (pa_cons (pv 0) (pa_cons (pe_tup (pa_cons (pe_bltn (v := .ty "list") (by rfl) T.n_list (by decide +kernel) rfl) (pa_cons (pe_bltn (v := .ty "tuple") (by rfl) T.n_tuple (by decide +kernel) rfl) pa_nil))) pa_nil)))) (pw_or1 (pt_cmpR op_ne (pe_callB (cg_isiK K) (by rfl) T.n_isinstance (by decide +kernel) (pa_cons (pv 0) (pa_cons (pe_bltn (v := .ty "str") (by rfl) T.n_str (by decide +kernel) rfl) pa_nil))) (pe_callB (cg_isiK K) (by rfl) T.n_isinstance (by decide +kernel) (pa_cons (pv 1) (pa_cons (pe_bltn (v := .ty "str") (by rfl) T.n_str (by decide +kernel) rfl) pa_nil))) (nomark _)))))
      (pss_one (ps_ret pe_bl)) pss_nil)
      (pss_one (ps_ret (pe_and (pe_cmpR op_eq (pe_callB (cg_isiK K) (by rfl) T.n_isinstance (by decide +kernel) (pa_cons (pv 0) (pa_cons (pe_bltn (v := .ty "int") (by rfl) T.n_int (by decide +kernel) rfl) pa_nil))) (pe_callB (cg_isiK K) (by rfl) T.n_isinstance (by decide +kernel) (pa_cons (pv 1) (pa_cons (pe_bltn (v := .ty "int") (by rfl) T.n_int (by decide +kernel) rfl) pa_nil))) (nomark _)) (pe_one (pe_cmpR op_eq (pv 0) (pv 1) (nomark _)))))))))), ?_⟩
    walk_at "go"
    rw [decide_eq_true (rfl : V.int n = V.int n)]
    exact k _ (by walk_at "hpS")
theorem ok_likeH (F : Fun K "_law_like" "_law_like" s_l_like f fd) (T : Blt mg) (D_g : mg "_law_like" = some (.ref f)) (D_kp : PySem.W.keepIn K (.ref f) = true) (D1 : ∃ fd, FnH P w K mg base CX0 1 f fd ["_law_found", "_law_due"] spIntH ∧ Binds K fd ["_law_found", "_law_due"] []) : FnH P w K mg base CX0 2 f fd ["_law_found", "_law_due"] spPairH := by
  obtain ⟨fd1, G_l_like, B_l_like⟩ := D1
  refine fnH_of F sc_l_like (fun vs H Q E h => ?_) (fun cdv A outer s H vs Q E p hot hr h => ?_)
  · obtain ⟨a, b, n, d, rfl, _⟩ := h
    rfl
  · obtain ⟨a, b, n, d, rfl, ha, hb, k⟩ := h
    have hc : HotC (cxH CX0 P w K mg base ["_law_found", "_law_due", "_law_one", "_law_two"] "_law_like" (defScope s_l_like) f cdv A outer s H E p) := ⟨p, hot, List.mem_singleton.mpr rfl⟩
    refine ⟨_, (pss_cons (ps_if (pt_val (pe_callB (cg_isiTK K) (by rfl) T.n_isinstance (by decide +kernel) (pa_cons (pv 1) (pa_cons (pe_tup (pa_cons (pe_bltn (v := .ty "list") (by rfl) T.n_list (by decide +kernel) rfl) (pa_cons (pe_bltn (v := .ty "tuple") (by rfl) T.n_tuple (by decide +kernel) rfl) pa_nil))) pa_nil))))
      (pss_cons (ps_if (PW.pt (pw_or (pt_cmpR op_ne (pe_callB (cg_isiK K) (by rfl) T.n_isinstance (by decide +kernel) (pa_cons (pv 0) (pa_cons (pe_bltn (v := .ty "list") (by rfl) T.n_list (by decide +kernel) rfl) pa_nil))) (pe_callB (cg_isiK K) (by rfl) T.n_isinstance (by decide +kernel) (pa_cons (pv 1) (pa_cons (pe_bltn (v := .ty "list") (by rfl) T.n_list (by decide +kernel) rfl) pa_nil))) (nomark _)) (pw_or1 (pt_cmpR op_ne (pe_callB (cg_isiK K) (by rfl) T.n_isinstance (by decide +kernel) (pa_cons (pv 0) (pa_cons (pe_bltn (v := .ty "tuple") (by rfl) T.n_tuple (by decide +kernel) rfl) pa_nil))) (pe_callB (cg_isiK K) (by rfl) T.n_isinstance (by decide +kernel) (pa_cons (pv 1) (pa_cons (pe_bltn (v := .ty "tuple") (by rfl) T.n_tuple (by decide +kernel) rfl) pa_nil))) (nomark _)))))
      (pss_one (ps_ret pe_bl)) pss_nil)
      (pss_one (ps_ret (pe_and (pe_cmpR op_eq (pe_callB (cg_lenK K) (by rfl) T.n_len (by decide +kernel) (pa_cons (pv 0) pa_nil)) (pe_callB (cg_lenK K) (by rfl) T.n_len (by decide +kernel) (pa_cons (pv 1) pa_nil)) (nomark _)) (pe_one (pe_callB (cr_allH K hc) (by rfl) T.n_all (by decide +kernel) (pa_cons (pe_lcH (own := [("_law_one", 2), ("_law_two", 3)]) (g := gTup K 2 (gCons (gName 2) (gCons (gName 3) gNil))) hc sc_l_like.nd (pi_zipH (by rfl) T.n_zip (pa_cons (pv 0) (pa_cons (pv 1) pa_nil))) (blkOk_by (N := ["_law_found", "_law_due", "_law_one", "_law_two"]) (sc := defScope s_l_like) (by decide +kernel)) (fun _ _ _ _ _ => by exact pg_tupH (hotC_bh hc) (pgs_cons (pg_name (i := 2) sc_l_like.nd rfl (.inl rfl) (.inr rfl)) (pgs_cons (pg_name (i := 3) sc_l_like.nd rfl (.inl rfl) (.inr rfl)) pgs_nil))) (fun _ _ _ _ _ => (pe_callH G_l_like hr (hotC_bh hc) (by rfl) D_g D_kp B_l_like (fun _ => passAt0) (pa_cons (pv 2) (pa_cons (pv 3) pa_nil))))) pa_nil))))))) pss_nil)
      (pss_cons (ps_if (PW.pt (pw_or (pt_cmpR og_isN (pv 1) pe_non (nomark _)) (pw_or1 (pt_cmpR og_isN (pv 0) pe_non (nomark _)))))
      (pss_one (ps_ret (pe_and (pe_cmpR og_isN (pv 1) pe_non (nomark _)) (pe_one (pe_cmpR og_isN (pv 0) pe_non (nomark _)))))) pss_nil)
      (pss_cons (ps_if (PW.pt (pw_or (pt_val (pe_callB (cg_isiK K) (by rfl) T.n_isinstance (by decide +kernel) (pa_cons (pv 1) (pa_cons (pe_bltn (v := .ty "bool") (by rfl) T.n_bool (by decide +kernel) rfl) pa_nil)))) (pw_or1 (pt_val (pe_callB (cg_isiK K) (by rfl) T.n_isinstance (by decide +kernel) (pa_cons (pv 0) (pa_cons (pe_bltn (v := .ty "bool") (by rfl) T.n_bool (by decide +kernel) rfl) pa_nil)))))))
      (pss_one (ps_ret (pe_and (pe_callB (cg_isiK K) (by rfl) T.n_isinstance (by decide +kernel) (pa_cons (pv 0) (pa_cons (pe_bltn (v := .ty "bool") (by rfl) T.n_bool (by decide +kernel) rfl) pa_nil))) (pe_and (pe_callB (cg_isiK K) (by rfl) T.n_isinstance (by decide +kernel) (pa_cons (pv 1) (pa_cons (pe_bltn (v := .ty "bool") (by rfl) T.n_bool (by decide +kernel) rfl) pa_nil))) (pe_one (pe_cmpR op_eq (pv 0) (pv 1) (nomark _))))))) pss_nil)
      (pss_cons (ps_if (PW.pt (pw_or (pt_val (pe_callB (cg_isiTK K) (by rfl) T.n_isinstance (by decide +kernel) (pa_cons (pv 0) (pa_cons (pe_tup (pa_cons (pe_bltn (v := .ty "list") (by rfl) T.n_list (by decide +kernel) rfl) (pa_cons (pe_bltn (v := .ty "tuple") (by rfl) T.n_tuple (by decide +kernel) rfl) pa_nil))) pa_nil)))) (pw_or1 (pt_cmpR op_ne (pe_callB (cg_isiK K) (by rfl) T.n_isinstance (by decide +kernel) (pa_cons (pv 0) (pa_cons (pe_bltn (v := .ty "str") (by rfl) T.n_str (by decide +kernel) rfl) pa_nil))) (pe_callB (cg_isiK K) (by rfl) T.n_isinstance (by decide +kernel) (pa_cons (pv 1) (pa_cons (pe_bltn (v := .ty "str") (by rfl) T.n_str (by decide +kernel) rfl) pa_nil))) (nomark _)))))
      (pss_one (ps_ret pe_bl)) pss_nil)
      (pss_one (ps_ret (pe_and (pe_cmpR op_eq (pe_callB (cg_isiK K) (by rfl) T.n_isinstance (by decide +kernel) (pa_cons (pv 0) (pa_cons (pe_bltn (v := .ty "int") (by rfl) T.n_int (by decide +kernel) rfl) pa_nil))) (pe_callB (cg_isiK K) (by rfl) T.n_isinstance (by decide +kernel) (pa_cons (pv 1) (pa_cons (pe_bltn (v := .ty "int") (by rfl) T.n_int (by decide +kernel) rfl) pa_nil))) (nomark _)) (pe_one (pe_cmpR op_eq (pv 0) (pv 1) (nomark _)))))))))), ?_⟩
    walk_at "go"
    refine ⟨_, _, [.int n, .int d], [.int n, .int d], rfl, by walk_at "hpT", by walk_at "hpT", fun D hD => ?_⟩
    rename_i tp ntp
    have s0 := same_new (o := .tup [V.ty "list", V.ty "tuple"]) ntp
    generalize upd H tp (.tup [V.ty "list", V.ty "tuple"]) = H1 at s0 hD
    refine lcV (walk_zipT (K := K) (a := a) (b := b) (xs := [.int n, .int d]) (ys := [.int n, .int d]) (n := 2) rfl) hD (fun _ => .bl true) (by decide) (fun H2 s => ⟨SqT.of (s _ _ (s0 _ _ ha)), SqT.of (s _ _ (s0 _ _ hb))⟩) (fun i y H2 H2' hi s y' Kt kt => ?_) (fun H' s hH => ?_) gm_pair
    · obtain ⟨t, x1, x2, rfl, nt, rfl, g1, g2⟩ := y'
      refine g_wipe2 (SqT.of upd_same) rfl ?_
      walk_at "go"
      have e : ∃ j : Int, x1 = .int j ∧ x2 = .int j := by
        match i, hi with
        | 0, _ => exact ⟨n, (Option.some.inj g1).symm, (Option.some.inj g2).symm⟩
        | 1, _ => exact ⟨d, (Option.some.inj g1).symm, (Option.some.inj g2).symm⟩
      obtain ⟨j, e1, e2⟩ := e
      refine ⟨x1, rfl, x2, rfl, ?_⟩
      refine sp_intH (E := L2.E0) (fun H5 s5 => ?_) e1 e2
      exact kt _ ((same_new nt).trans s5)
    · walk_at "go"
      refine g_all (bs := [true, true]) ?_ (SqL.of hH)
      exact k _ (s0.trans s)
end
end Ko


namespace Ko
open PySem L2 PySem.Spec PyProof.Rows Xm
/-- an error just made bears no context -/
theorem pmk_errN {X : Cx} {e : Expr} {te : TE} (hx : X.ex = []) (he : PE X e te) : L2N.PMk X e (tRs X.H_0 (Raises X) te) := by
  intro pins s σ H Q I h
  refine wpAny_mono (he.run pins s σ H _ I h) (fun u s1 hu => ?_) fun _ _ x => x
  obtain ⟨v, H1, I1, r1, a, C, d, rfl, ha, h0, hr, q⟩ := hu
  cases r1
  obtain ⟨t1, ho⟩ := exo_at I1.hok ha
  obtain ⟨G, gs, ga, J⟩ := I1.untrack (show H1 a = some (.ext _) from ha) h0 hx
  exact ⟨a, _, _, { s1 with heap := G }, delH H1 a, .ref C, d, rfl, J, gs, ga, ho, ⟨rfl, rfl, fun vs z => by cases z; rfl⟩, rfl, rfl, delH_same, rfl, I1.bare, hr, q⟩
theorem takesN {X : Cx} : L2N.Takes X (fun _ _ _ _ => False) := fun _ _ x => by
  obtain ⟨_, _, _, _, _, _, _, _, _, _, _, _, _, _, _, _, z⟩ := x
  exact z.elim
theorem okN {P : Program} {w : World} {K : PySem.W.Frag} {mg : Str → Option Value} {base : Heap} {x qual : Str} {st : Stmt} {f : Addr} {fd : FuncData} {N ps : List Str} {k : Nat} {sp : Sp} (F : Fun K x qual st f fd) (S : FnScope N ps (defScope st)) (len : ∀ vs H Q E, sp vs H Q E → vs.length = ps.length)
    (body : ∀ (cdv : Value) (A : Around) (outer : List Env) (s : Shared) (H : Hp) (vs : List V) (Q : VK) (E : XK), Room k (A.deeper (envOfC qual (defScope st) s.heap.objs.size f cdv)) → sp vs H Q E →
      ∃ t, PSs (cxOf (L2N.CX P w) P w K mg base N qual (defScope st) f cdv A outer s H E) (defBody st) t ∧ t { nx := fun _ H' => Q .non H', rt := Q } (start N vs) H) : FnOk P w K mg base (L2N.CX P w) (k + 1) f fd ps sp := by
  obtain ⟨oc, od, kV, doc, pm, an, cdv, ct, osl, rfl, lk, hcd⟩ := F.ex
  exact fn_of lk hcd S len fun A outer s H vs Q E room h => body cdv A outer s H vs Q E room h

local macro_rules | `(tactic| walk_at "hpS") => `(tactic| with_reducible first
  | exact Same.refl _
  | assumption
  | (refine' Same.trans ?hq (same_new (by assumption)); (case hq => walk_at "hpS"))
  | (refine' Same.trans ?hq (by assumption); (case hq => walk_at "hpS"))
  | fail)
local macro_rules | `(tactic| walk_at "hpH") => `(tactic| with_reducible first
  | assumption
  | exact upd_same
  | (refine' same_at (same_new (by assumption)) ?hq; (case hq => walk_at "hpH"))
  | (refine' same_at (by assumption) ?hq; (case hq => walk_at "hpH"))
  | fail)
local macro_rules | `(tactic| walk_at "hpTo") => `(tactic| with_reducible first
  | assumption
  | (refine' sq_t (same_new (by assumption)) ?hq; (case hq => walk_at "hpTo"))
  | (refine' sq_t (by assumption) ?hq; (case hq => walk_at "hpTo"))
  | fail)
local macro_rules | `(tactic| walk_at "hpT") => `(tactic| with_reducible first
  | (refine' SqT.of ?hq; (case hq => walk_at "hpH"))
  | walk_at "hpTo"
  | fail)
local macro_rules | `(tactic| walk_at "hpLo") => `(tactic| with_reducible first
  | assumption
  | (refine' sq_l (same_new (by assumption)) ?hq; (case hq => walk_at "hpLo"))
  | (refine' sq_l (by assumption) ?hq; (case hq => walk_at "hpLo"))
  | fail)
local macro_rules | `(tactic| walk_at "hpL") => `(tactic| with_reducible first
  | (refine' SqL.of ?hq; (case hq => walk_at "hpH"))
  | walk_at "hpLo"
  | fail)
local macro_rules | `(tactic| walk_at "kit") => `(tactic| with_reducible first
  | exact kit_int_bool | exact kit_int_int | exact kit_int_tuple | exact kit_int_list | exact kit_int_str
  | exact kit_tuple_tuple | exact kit_tuple_int | exact kit_tuple_bool | exact kit_tuple_list | exact kit_tuple_str
  | exact kit_bool_bool | exact kit_bool_int | exact kit_bool_tuple | exact kit_bool_list | exact kit_bool_str
  | exact kit_str_str | exact kit_str_int | exact kit_str_bool | exact kit_str_tuple | exact kit_str_list
  | exact kit_NoneType_int | exact kit_NoneType_bool | exact kit_NoneType_tuple | exact kit_NoneType_list | exact kit_NoneType_str
  | exact kit_list_list | exact kit_list_tuple | exact kit_list_int | exact kit_list_bool | exact kit_list_str
  | fail)
local macro_rules | `(tactic| walk_at "call") => `(tactic| fail)
local macro_rules | `(tactic| walk_at "s0") => `(tactic| with_reducible first
  | refine g_seq ?_ | refine g_asg ?_ | refine g_name ?_ | refine g_ifS ?_ | refine g_ret ?_ | refine g_retN ?_ | refine g_next ?_
  | refine g_par ?_ | refine g_parE ?_ | refine g_drop ?_
  | refine g_c ?_ | refine g_op ?_ | refine g_un ?_ | refine g_cb ?_ | refine g_call ?_ | refine g_nil ?_ | refine g_cons ?_ | refine g_tup ?_ | refine g_lst ?_
  | refine g_test ?_ | refine g_B ?_ | refine g_blF ?_ | refine g_and ?_ | refine g_or ?_ | refine g_not ?_ | refine g_andV ?_ | refine g_orV ?_ | refine g_notV ?_ | refine g_if ?_
  | refine iteT ?_ | refine iteF ?_
  | refine g_chain ?_ | refine g_sl ?_ | refine g_noPart ?_ | refine g_part ?_ | refine g_partI ?_ | refine g_slS ?_ ?side | refine g_M1 ?_ | refine g_M1s ?_ | refine g_starts ?_ | refine g_bm ?_ | refine g_bm0 ?_ | refine g_tyS ?_
  | refine g_Fs ?_ | refine g_JsN ?_ | refine g_JsC ?_ | refine g_JsE ?_ ?side | refine g_fmt ?_ | refine g_fmtI ?_ ?side | refine g_fmtS ?_ ?side | refine g_iList ?_ | refine g_iTup ?_ | refine g_iStr ?_ | refine g_iStrE ?_ | refine g_iRng1 ?_ | refine g_iRng1E ?_ ?side1 ?side2 | refine g_yes ?_ | refine g_ckw ?_ | refine g_dget ?_ | refine g_dictZip ?_ | refine g_gCons ?_ | refine g_gNil ?_ | refine g_revL ?_ | refine g_for ?_ | refine g_lc ?_ | refine g_addS ?_ ?side | refine g_str ?_ ?side | refine g_lenS ?_ ?side
  | refine g_rI0 ?_ | refine g_rI ?_ ?side | refine g_rU ?_ | refine g_abs ?_ | refine g_int ?_ | refine g_intB ?_ | refine g_gcd ?_ | refine g_inS ?_ | refine g_isN0 ?_ | refine g_notN0 ?_
  | fail)
local macro_rules | `(tactic| walk_at "s1") => `(tactic| first
  | ((with_reducible refine' g_var ?h ?_); (case h => exact rfl))
  | ((with_reducible refine' g_new ?h ?_); (case h => exact (by simp only [List.length_cons, List.length_nil]; decide)); intro tnew htnew)
  | ((with_reducible refine' iteDT ?h ?_); (case h => first | exact rfl | assumption))
  | ((with_reducible refine' iteNT ?h ?_); (case h => first | exact rfl | assumption))
  | ((with_reducible refine' iteDF ?h ?_); (case h => first | assumption | (intro z; cases z)))
  | ((with_reducible refine' iteNF ?h ?_); (case h => first | assumption | (intro z; cases z)))
  | ((with_reducible refine' g_eq ?_ ?h); (case h => exact rfl))
  | ((with_reducible refine' g_ne ?_ ?h); (case h => exact rfl))
  | ((with_reducible refine' g_ixT ?_ ?h ?e); (case h => walk_at "hpT"); (case e => first | exact rfl | exact atI_0 | exact atI_1))
  | ((with_reducible refine' g_ixL ?_ ?h ?e); (case h => walk_at "hpL"); (case e => first | exact rfl | exact atI_0 | exact atI_1))
  | ((with_reducible refine' g_isi_int ?_ ?h); (case h => walk_at "kit"))
  | ((with_reducible refine' g_isi_str ?_ ?h); (case h => walk_at "kit"))
  | ((with_reducible refine' g_isi_bl ?_ ?h); (case h => walk_at "kit"))
  | ((with_reducible refine' g_isi_non ?_ ?h); (case h => walk_at "kit"))
  | ((with_reducible refine' g_isi_t ?_ ?t ?h); (case t => walk_at "hpT"); (case h => walk_at "kit"))
  | ((with_reducible refine' g_isi_l ?_ ?t ?h ?l); (case l => walk_at "hpH"); (case t => walk_at "hpL"); (case h => walk_at "kit"))
  | ((with_reducible refine' g_lenT ?_ ?h); (case h => walk_at "hpT"))
  | ((with_reducible refine' g_lenL ?_ ?h); (case h => walk_at "hpL"))
  | ((with_reducible refine' g_split ?_ ?h ?side); (case h => exact rfl); intro pnew hpnew)
  | ((with_reducible refine' g_slL ?h ?_); (case h => walk_at "hpL"); intro pnew hpnew)
  | ((with_reducible refine' g_iListE ?_ ?h); (case h => walk_at "hpL"))
  | ((with_reducible refine' g_iTupE ?_ ?h); (case h => walk_at "hpT"))
  | ((with_reducible refine' g_tyL ?_ ?h); (case h => walk_at "hpL"))
  | ((with_reducible refine' g_join ?_ ?h ?side); (case h => walk_at "hpL"))
  | ((with_reducible refine' g_append ?_ ?h ?side); (case h => walk_at "hpH"))
  | ((with_reducible refine' g_all ?_ ?h); (case h => walk_at "hpL"))
  | ((with_reducible refine' g_gTup ?_ ?h ?n); (case h => walk_at "hpT"); (case n => exact rfl))
  | ((with_reducible refine' g_revLE ?h ?_); (case h => walk_at "hpL"); intro pnew hpnew)
  | ((with_reducible refine' g_isN1 ?_ ?h); (case h => first | assumption | (intro z; cases z)))
  | ((with_reducible refine' g_notN1 ?_ ?h); (case h => first | assumption | (intro z; cases z)))
  | walk_at "call"
  | ((with_reducible refine' iteBT ?h ?_); (case h => first | assumption | exact rfl))
  | ((with_reducible refine' iteBF ?h ?_); (case h => first | assumption | exact rfl))
  | fail)
local macro_rules | `(tactic| walk_at "nrm") => `(tactic| simp only [Bool.not_true, Bool.not_false, decide_eq_true_eq, decide_true, decide_false, Bool.true_and, Bool.false_and, Bool.and_true, Bool.and_false, V.int.injEq, V.bl.injEq, V.str.injEq, List.length_cons, List.length_nil, Bool.not_eq_true', decide_eq_false_iff_not, Int.not_lt, Int.not_le, reduceCtorEq, not_false_eq_true, not_true_eq_false, Decidable.not_not] at *)
local macro_rules | `(tactic| walk_at "sp") => `(tactic| ((with_reducible refine ite2 (fun c => ?_) (fun c => ?_)) <;> (try simp only [decide_eq_true_eq, Bool.not_eq_true', decide_eq_false_iff_not, V.int.injEq, V.bl.injEq, V.str.injEq, Int.not_lt, Int.not_le, reduceCtorEq, Decidable.not_not, Bool.false_eq_true, Bool.true_eq_false] at c) <;> (try (exfalso; omega))))
local macro_rules | `(tactic| walk_at "s") => `(tactic| first | walk_at "s0" | walk_at "s1" | fail)
local macro_rules | `(tactic| walk_at "go") => `(tactic| (try dsimp only [cxK, cxK']); repeat' walk_at "s")
local macro_rules | `(tactic| walk_at "gos") => `(tactic| ((try dsimp only [cxK, cxK']); repeat' (first | walk_at "s" | walk_at "sp" | fail)))

local macro_rules | `(tactic| walk_at "hpNo") => `(tactic| with_reducible first
  | assumption
  | (refine' Nm.ofPr ?hq; (case hq => assumption))
  | (refine' Nm.same (same_new (by assumption)) ?hq; (case hq => walk_at "hpNo"))
  | (refine' Nm.same (by assumption) ?hq; (case hq => walk_at "hpNo"))
  | fail)
local macro_rules | `(tactic| walk_at "hpN") => `(tactic| with_reducible first
  | walk_at "hpNo"
  | (refine' Nm.of ?hq; (case hq => walk_at "hpH"))
  | fail)
local macro_rules | `(tactic| walk_at "hpPo") => `(tactic| with_reducible first
  | assumption
  | (refine' Pr.same (same_new (by assumption)) ?hq; (case hq => walk_at "hpPo"))
  | (refine' Pr.same (by assumption) ?hq; (case hq => walk_at "hpPo"))
  | fail)
local macro_rules | `(tactic| walk_at "hpP") => `(tactic| with_reducible first
  | walk_at "hpPo"
  | (refine' Pr.of ?hq; (case hq => walk_at "hpH"))
  | fail)
local macro_rules | `(tactic| walk_at "hpDo") => `(tactic| with_reducible first
  | assumption
  | exact Dq.int _ | exact Dq.bl _ | exact Dq.str _ | exact Dq.non
  | (refine' Dq.same (same_new (by assumption)) ?hq; (case hq => walk_at "hpDo"))
  | (refine' Dq.same (by assumption) ?hq; (case hq => walk_at "hpDo"))
  | fail)
local macro_rules | `(tactic| walk_at "hpD") => `(tactic| with_reducible first
  | walk_at "hpDo"
  | fail)

local macro_rules | `(tactic| walk_at "call") => `(tactic| first
  | ((with_reducible refine' sp_pair ?h ?_); (case h => walk_at "hpN"); intro tp Hp' sp' hp')
  | fail)
section
variable {P : Program} {w : World} {K : Fg} {mg : Str → Option Value} {base : Heap} {R C f f1 f2 : Addr} {fd : FuncData}
theorem ok_overXN (F : Fun K "over" "over" s_over f fd) (T : Blt mg) (Z : Bn P w K mg base R C) (D_pair : Df P w K mg base 1 "pair" f1 ["a"] spPair) (D_reduced : Df P w K mg base 1 "reduced" f2 ["n", "d"] spReduced) : FnOk P w K mg base (L2N.CX P w) 3 f fd ["a", "b"] (spOverX C) := by
  obtain ⟨_, G_pair, B_pair⟩ := D_pair.ok
  obtain ⟨_, G_reduced, B_reduced⟩ := D_reduced.ok
  obtain ⟨_, _, M_BadNumber, F_BadNumber, BP_BadNumber, _⟩ := Z.m
  refine okN F sc_over (fun vs H Q E h => ?_) (fun cdv A outer s H vs Q E hr h => ?_)
  · obtain ⟨x, y, p, q, rfl, _⟩ := h
    rfl
  · obtain ⟨x, y, p, q, rfl, hx, hy, hq, k⟩ := h
    have hr1 := hr.mono (show 2 ≤ 2 by decide)
    refine ⟨_, (pss_cons (ps_par (i := 0) (j := 1) rfl sc_over.nd rfl rfl (by decide) rfl rfl (pa_cons (pe_call G_pair (hr.mono (by decide)) (by rfl) D_pair.g D_pair.kp B_pair .nil pass0 (pa_cons (pv 0) pa_nil)) (pa_cons (pe_call G_pair (hr.mono (by decide)) (by rfl) D_pair.g D_pair.kp B_pair .nil pass0 (pa_cons (pv 1) pa_nil)) pa_nil)) rfl)
      (pss_cons (ps_if (pt_cmpR op_eq (pe_ix (ix_seqK K) (pv 1) pe_int (fun _ _ => rfl)) pe_int (nomark _))
      (pss_one (L2N.ps_raise rfl (L2N.takes_of rfl rfl rfl rfl) (pmk_errN rfl (pe_errP M_BadNumber F_BadNumber (hr.mono (by decide)) (by rfl) Z.e.g BP_BadNumber (pa_cons (pv 1) pa_nil))))) pss_nil)
      (pss_one (ps_ret (pe_call G_reduced (hr.mono (by decide)) (by rfl) D_reduced.g D_reduced.kp B_reduced .nil pass0 (pa_cons (pe_op op_mulW (pe_ix (ix_seqK K) (pv 0) pe_int (fun _ _ => rfl)) (pe_ix (ix_seqK K) (pv 1) pe_int (fun _ _ => rfl))) (pa_cons (pe_op op_mulW (pe_ix (ix_seqK K) (pv 0) pe_int (fun _ _ => rfl)) (pe_ix (ix_seqK K) (pv 1) pe_int (fun _ _ => rfl))) pa_nil))))))), ?_⟩
    have rz : Raises (cxOf (L2N.CX P w) P w K mg base ["a", "b"] "over" (defScope s_over) f cdv A outer s H E) (.ref C) := raises_own Z.e.oex.exC Z.e.oex.tyC
    have z' : V.int q.1 = V.int 0 := by rw [hq]
    walk_at "go"
    rename_i t1 H1 s1 h1 t2 H2 s2 h2
    refine g_rise (Q := E) (s1.trans s2) rfl rz fun dx H3 s3 hd => ?_
    exact k t2 dx H3 ((s1.trans s2).trans s3) (s3 _ _ h2) hd
end
end Ko


namespace Ko
open PySem L2 PySem.Spec PyProof.Rows Xm L2H
theorem Bn.caughtC {P : Program} {w : World} {K : Fg} {mg : Str → Option Value} {base : Heap} {R C : Addr} (Z : Bn P w K mg base R C) : PySem.W.exmOne K (.ref C) (.ref C) = some true := by
  obtain ⟨cd, h1, h2, h3, h4⟩ := Z.e.cls
  have sub : ∀ v : Value, cd.mro.contains v = true → PySem.W.subIn K (.ref C) v = some true := fun v hv => by
    show PySem.W.mroIn K C _ = _
    unfold PySem.W.mroIn
    rw [h1, Option.bind_some, hv, h2]
    rfl
  refine PySem.W.exm_ref (sub _ (by rw [h2]; rfl)) ?_ h4 (sub _ (by rw [h2]; simp))
  unfold PySem.W.hasDictIn
  rw [h1]
  exact h3
section
variable {P : Program} {w : World} {K : Fg} {mg : Str → Option Value} {base : Heap} {R C f f1 f2 f3 f4 : Addr} {fd : FuncData}
theorem ok_l_over_none (F : Fun K "_law_over_none" "_law_over_none" s_l_over_none f fd) (T : Blt mg) (Z : Bn P w K mg base R C) (D_l_of : Df P w K mg base 2 "_law_of" f1 ["_law_bag_here", "_law_things"] spOf) (D_l_handed : Df P w K mg base 2 "_law_handed" f2 ["_law_bag_here", "_law_one"] spHanded)
    (g3 : mg "over" = some (.ref f3)) (k3 : PySem.W.keepIn K (.ref f3) = true) (D3 : ∃ fd, FnOk P w K mg base (L2N.CX P w) 3 f3 fd ["a", "b"] (spOverX C) ∧ Binds K fd ["a", "b"] [])
    (g4 : mg "_law_like" = some (.ref f4)) (k4 : PySem.W.keepIn K (.ref f4) = true) (D4 : ∃ fd, FnH P w K mg base CX0 2 f4 fd ["_law_found", "_law_due"] spPairH ∧ Binds K fd ["_law_found", "_law_due"] []) : FnOk P w K mg base CX0 5 f fd ["_law_bag_here", "_law_one"] spOverNone := by
  obtain ⟨_, G_of, B_of⟩ := D_l_of.ok
  obtain ⟨_, G_handed, B_handed⟩ := D_l_handed.ok
  obtain ⟨fd3, G3, B3⟩ := D3
  obtain ⟨fd4, G4, B4⟩ := D4
  refine F.ok sc_l_over_none (fun vs H Q E h => ?_) (fun cdv A outer s H vs Q E hr h => ?_)
  · obtain ⟨b, c, t, n, d, rfl, _⟩ := h
    rfl
  · obtain ⟨b, c, t, n, d, rfl, B, ht, k⟩ := h
    have hr2 := hr.mono (show 2 ≤ 4 by decide)
    have hr3 := hr.mono (show 3 ≤ 4 by decide)
    refine ⟨_, pss_cons (L2N.ps_try_as (i := 2) (tb := fun W => tDrop (tCallS (spOverX C) (WE W) (tCons (tCall spHanded [] L2.E0 (tCons (tVar 0) (tCons (tVar 1) tNil))) (tCons (tCall spOf [] L2.E0 (tCons (tVar 0) (tCons (tLst (tCons (tC (.int 0)) (tCons (tTup (tCons (tC (.int 0)) (tCons (tC (.int 1)) tNil))) tNil))) tNil))) tNil))))
      (ts := fun a cls d => tRet (tCallS spPairH (fun _ => L2.E0) (tCons (tXe a cls d C "value" (tVar 2)) (tCons (tTup (tCons (tC (.int 0)) (tCons (tC (.int 1)) tNil))) tNil))))
      (Wout := fun _ _ _ _ => False) rfl rfl sc_l_over_none.nd rfl rfl ⟨rfl, by decide, Or.inl Z.e.g⟩ takesN
      (fun W pn xe tk _ => pss_one (ps_expr (by exact pe_callS G3 hr3 rfl g3 k3 B3 (fun σ => L2N.passAt tk σ) (pa_cons (pe_call G_handed hr2 (by rfl) D_l_handed.g D_l_handed.kp B_handed .nil pass0 (pa_cons (pv 0) (pa_cons (pv 1) pa_nil)))
        (pa_cons (pe_call G_of hr2 (by rfl) D_l_of.g D_l_of.kp B_of .nil pass0 (pa_cons (pv 0) (pa_cons (pe_lst (pa_cons pe_int (pa_cons (pe_tup (pa_cons pe_int (pa_cons pe_int pa_nil))) pa_nil))) pa_nil))) pa_nil)))))
      (fun a oe cls d pn hz hf => pss_one (ps_ret (by
        obtain ⟨vs, hd⟩ := hf
        exact pe_callH G4 ⟨hr2.dp, hr2.un⟩ ⟨(a, oe), ⟨rfl, vs, hd, hz.2.2 vs hd⟩, List.mem_cons_self⟩ rfl g4 k4 B4 (fun _ => passAt0) (pa_cons (pe_xe Z.e.xf (Z.e.no _ (by simp)) hz.zc ⟨vs, hd⟩ (pv 2)) (pa_cons (pe_tup (pa_cons pe_int (pa_cons pe_int pa_nil))) pa_nil))))))
      (pss_one (ps_ret pe_bl)), ?_⟩
    have two : (2 : Nat) ≤ sizeLine := by
      rw [sizeLine_eq]
      decide
    refine ⟨_, rfl, _, rfl, b, c, t, (n, d), rfl, B, ht, fun x H1 hx s1 B1 => ?_⟩
    refine ⟨_, rfl, two, fun pt hpt => ⟨two, fun pl hpl => ?_⟩⟩
    have e3 : upd (upd H1 pt (.tup [V.int 0, V.int 1])) pl (.lst [V.int 0, V.ref pt]) pt = some (.tup [V.int 0, V.int 1]) := by
      rw [upd_ne (ne_of_none upd_same hpl)]
      exact upd_same
    have B3 : Bag (upd (upd H1 pt (.tup [V.int 0, V.int 1])) pl (.lst [V.int 0, V.ref pt])) b c := bag_upd (bag_upd B1 hpt) hpl
    refine ⟨b, c, pl, [V.int 0, V.ref pt], rfl, B3, mk_new hpl (bag_upd B1 hpt), Nat.le_of_ble_eq_true rfl, Nat.le_of_ble_eq_true rfl, fun y H4 hy s4 B4 => ?_⟩
    have hy4 : Nm H4 y (0, 1) := by
      rcases List.mem_cons.mp hy with rfl | hy
      · exact .inr ⟨rfl, rfl⟩
      · rw [List.mem_singleton.mp hy]
        exact .inl ⟨pt, rfl, mk_same _ _ (s4 _ _ (mk_at e3 (B3.neTup e3)))⟩
    have hx4 : Nm H4 x (n, d) := (((hx.same (mk_upd hpt)).same (mk_upd hpl)).same s4).same mk_same
    refine ⟨x, y, (n, d), (0, 1), rfl, hx4, hy4, rfl, fun tz dx H5 s5 hz hd => ?_⟩
    refine ⟨true, Z.caughtC, fun _ a ha => ?_, fun z => by cases z⟩
    refine ⟨_, rfl, rfl, rfl, dx, _, .ref tz, rfl, hd, by simp, two, fun pq hpq => ?_⟩
    refine ⟨tz, pq, 0, 1, rfl, ?_, upd_same, fun H7 s7 => ?_⟩
    · rw [upd_ne (ne_of_none hz hpq)]
      exact hz
    · exact k H7 (s1.trans ((mk_upd hpt).trans ((mk_upd hpl).trans (s4.trans (mk_mono (s5.trans ((same_new hpq).trans s7))))))) (bag_same B4 (s5.trans ((same_new hpq).trans s7)))
end
end Ko

namespace Ko
open PySem L2 PySem.Spec PyProof.Rows Xm
theorem fun_of {K : PySem.W.Frag} {x qual : Str} {st : Stmt} {f : Addr} {fd : FuncData} (F : FunD K x qual (defArgs st) (defBody st) (defScope st) [] [] f fd) : Fun K x qual st f fd := by
  obtain ⟨oc, od, dV, kV, doc, pm, an, cdv, ct, osl, rfl, lk, hcd, hD, hK⟩ := F.ex
  rcases hD with ⟨_, rfl⟩ | ⟨z, _⟩
  · exact ⟨⟨oc, od, kV, doc, pm, an, cdv, ct, osl, rfl, lk, hcd⟩, F.kp⟩
  · exact absurd rfl z
theorem facts {P : Program} {w : World} {K : PySem.W.Frag} {h : Heap} {mg : Str → Option Value} {fa : Addr} (X : K.In h) (G : h.Ns mainGlobals mg) (hfa : mg ("law" : Str) = some (.ref fa)) (x : exB K = true) (c : He.SaysD [] fnA K) :
    ∃ fd : FuncData, (∀ (s : Shared) (v : Value), BindsTo s fd ⟨[v], []⟩ [("_law_script", v)]) ∧ ∀ base : Heap, K.In base → base.Ns mainGlobals mg → FnOk P w K mg base CX0 7 fa fd ["_law_script"] (spLaw K) := by
  obtain ⟨x1, x⟩ := He.ba x
  obtain ⟨x2, x⟩ := He.ba x
  obtain ⟨x3, x⟩ := He.ba x
  obtain ⟨x4, x⟩ := He.ba x
  obtain ⟨x5, x⟩ := He.ba x
  obtain ⟨x6, x⟩ := He.ba x
  obtain ⟨x7, x8⟩ := He.ba x
  have RT := refB_ok X G x1
  have glo : ∀ n ∈ defNames, mg n = some (.ref (He.ga K n)) := fun n hn => PySem.W.mg_of X G (He.eqO_ok (List.all_eq_true.mp x4 n hn))
  have B : Blt mg := fun n hn => PySem.W.mg_none_of X G (He.eqO_ok (List.all_eq_true.mp x3 n hn))
  have hg : mg "gcd" = some (.builtin "math.gcd") := PySem.W.mg_of X G (He.eqO_ok x6)
  obtain ⟨t1, y1⟩ := intB_ok x7
  obtain ⟨t2, y2⟩ := strB_ok x8
  have c_MOST_DIGITS : mg "MOST_DIGITS" = some (.int 60 t1) := PySem.W.mg_of X G y1
  have c_DIGITS : mg "DIGITS" = some (.str "0123456789" t2) := PySem.W.mg_of X G y2
  obtain ⟨E, i1, i2⟩ := clsB_ok X G x2
  obtain ⟨fd_BadNumber, FD_BadNumber⟩ := c.def_ 0 (d := mkI "BadNumber" "BadNumber.__init__" s_BadNumber) rfl
  have F_BadNumber : Fun K "__init__" "BadNumber.__init__" s_BadNumber (He.fAd K ("BadNumber", some "__init__")) fd_BadNumber := fun_of FD_BadNumber
  obtain ⟨fd_is_whole, FD_is_whole⟩ := c.def_ 1 (d := mkD "is_whole" s_is_whole) rfl
  have F_is_whole : Fun K "is_whole" "is_whole" s_is_whole (He.ga K "is_whole") fd_is_whole := fun_of FD_is_whole
  have b_is_whole : Binds K fd_is_whole ["value"] [] := F_is_whole.binds (ps := ["value"]) fun _ _ _ _ _ _ us hl => match us, hl with | [_], _ => rfl
  obtain ⟨fd_is_fraction, FD_is_fraction⟩ := c.def_ 2 (d := mkD "is_fraction" s_is_fraction) rfl
  have F_is_fraction : Fun K "is_fraction" "is_fraction" s_is_fraction (He.ga K "is_fraction") fd_is_fraction := fun_of FD_is_fraction
  have b_is_fraction : Binds K fd_is_fraction ["value"] [] := F_is_fraction.binds (ps := ["value"]) fun _ _ _ _ _ _ us hl => match us, hl with | [_], _ => rfl
  obtain ⟨fd_is_number, FD_is_number⟩ := c.def_ 3 (d := mkD "is_number" s_is_number) rfl
  have F_is_number : Fun K "is_number" "is_number" s_is_number (He.ga K "is_number") fd_is_number := fun_of FD_is_number
  have b_is_number : Binds K fd_is_number ["value"] [] := F_is_number.binds (ps := ["value"]) fun _ _ _ _ _ _ us hl => match us, hl with | [_], _ => rfl
  obtain ⟨fd_reduced, FD_reduced⟩ := c.def_ 4 (d := mkD "reduced" s_reduced) rfl
  have F_reduced : Fun K "reduced" "reduced" s_reduced (He.ga K "reduced") fd_reduced := fun_of FD_reduced
  have b_reduced : Binds K fd_reduced ["n", "d"] [] := F_reduced.binds (ps := ["n", "d"]) fun _ _ _ _ _ _ us hl => match us, hl with | [_, _], _ => rfl
  obtain ⟨fd_pair, FD_pair⟩ := c.def_ 5 (d := mkD "pair" s_pair) rfl
  have F_pair : Fun K "pair" "pair" s_pair (He.ga K "pair") fd_pair := fun_of FD_pair
  have b_pair : Binds K fd_pair ["a"] [] := F_pair.binds (ps := ["a"]) fun _ _ _ _ _ _ us hl => match us, hl with | [_], _ => rfl
  obtain ⟨fd_has_digits, FD_has_digits⟩ := c.def_ 6 (d := mkD "has_digits" s_has_digits) rfl
  have F_has_digits : Fun K "has_digits" "has_digits" s_has_digits (He.ga K "has_digits") fd_has_digits := fun_of FD_has_digits
  have b_has_digits : Binds K fd_has_digits ["text"] [] := F_has_digits.binds (ps := ["text"]) fun _ _ _ _ _ _ us hl => match us, hl with | [_], _ => rfl
  obtain ⟨fd_read_number, FD_read_number⟩ := c.def_ 7 (d := mkD "read_number" s_read_number) rfl
  have F_read_number : Fun K "read_number" "read_number" s_read_number (He.ga K "read_number") fd_read_number := fun_of FD_read_number
  have b_read_number : Binds K fd_read_number ["text"] [] := F_read_number.binds (ps := ["text"]) fun _ _ _ _ _ _ us hl => match us, hl with | [_], _ => rfl
  obtain ⟨fd_exact, FD_exact⟩ := c.def_ 8 (d := mkD "exact" s_exact) rfl
  have F_exact : Fun K "exact" "exact" s_exact (He.ga K "exact") fd_exact := fun_of FD_exact
  have b_exact : Binds K fd_exact ["value"] [] := F_exact.binds (ps := ["value"]) fun _ _ _ _ _ _ us hl => match us, hl with | [_], _ => rfl
  obtain ⟨fd_plus, FD_plus⟩ := c.def_ 9 (d := mkD "plus" s_plus) rfl
  have F_plus : Fun K "plus" "plus" s_plus (He.ga K "plus") fd_plus := fun_of FD_plus
  have b_plus : Binds K fd_plus ["a", "b"] [] := F_plus.binds (ps := ["a", "b"]) fun _ _ _ _ _ _ us hl => match us, hl with | [_, _], _ => rfl
  obtain ⟨fd_minus, FD_minus⟩ := c.def_ 10 (d := mkD "minus" s_minus) rfl
  have F_minus : Fun K "minus" "minus" s_minus (He.ga K "minus") fd_minus := fun_of FD_minus
  have b_minus : Binds K fd_minus ["a", "b"] [] := F_minus.binds (ps := ["a", "b"]) fun _ _ _ _ _ _ us hl => match us, hl with | [_, _], _ => rfl
  obtain ⟨fd_times, FD_times⟩ := c.def_ 11 (d := mkD "times" s_times) rfl
  have F_times : Fun K "times" "times" s_times (He.ga K "times") fd_times := fun_of FD_times
  have b_times : Binds K fd_times ["a", "b"] [] := F_times.binds (ps := ["a", "b"]) fun _ _ _ _ _ _ us hl => match us, hl with | [_, _], _ => rfl
  obtain ⟨fd_over, FD_over⟩ := c.def_ 12 (d := mkD "over" s_over) rfl
  have F_over : Fun K "over" "over" s_over (He.ga K "over") fd_over := fun_of FD_over
  have b_over : Binds K fd_over ["a", "b"] [] := F_over.binds (ps := ["a", "b"]) fun _ _ _ _ _ _ us hl => match us, hl with | [_, _], _ => rfl
  obtain ⟨fd_below, FD_below⟩ := c.def_ 13 (d := mkD "below" s_below) rfl
  have F_below : Fun K "below" "below" s_below (He.ga K "below") fd_below := fun_of FD_below
  have b_below : Binds K fd_below ["a", "b"] [] := F_below.binds (ps := ["a", "b"]) fun _ _ _ _ _ _ us hl => match us, hl with | [_, _], _ => rfl
  obtain ⟨fd_compare, FD_compare⟩ := c.def_ 14 (d := mkD "compare" s_compare) rfl
  have F_compare : Fun K "compare" "compare" s_compare (He.ga K "compare") fd_compare := fun_of FD_compare
  have b_compare : Binds K fd_compare ["a", "b"] [] := F_compare.binds (ps := ["a", "b"]) fun _ _ _ _ _ _ us hl => match us, hl with | [_, _], _ => rfl
  obtain ⟨fd_least, FD_least⟩ := c.def_ 15 (d := mkD "least" s_least) rfl
  have F_least : Fun K "least" "least" s_least (He.ga K "least") fd_least := fun_of FD_least
  have b_least : Binds K fd_least ["numbers"] [] := F_least.binds (ps := ["numbers"]) fun _ _ _ _ _ _ us hl => match us, hl with | [_], _ => rfl
  obtain ⟨fd_greatest_of, FD_greatest_of⟩ := c.def_ 16 (d := mkD "greatest_of" s_greatest_of) rfl
  have F_greatest_of : Fun K "greatest_of" "greatest_of" s_greatest_of (He.ga K "greatest_of") fd_greatest_of := fun_of FD_greatest_of
  have b_greatest_of : Binds K fd_greatest_of ["numbers"] [] := F_greatest_of.binds (ps := ["numbers"]) fun _ _ _ _ _ _ us hl => match us, hl with | [_], _ => rfl
  obtain ⟨fd_sort_keys, FD_sort_keys⟩ := c.def_ 17 (d := mkD "sort_keys" s_sort_keys) rfl
  have F_sort_keys : Fun K "sort_keys" "sort_keys" s_sort_keys (He.ga K "sort_keys") fd_sort_keys := fun_of FD_sort_keys
  have b_sort_keys : Binds K fd_sort_keys ["numbers"] [] := F_sort_keys.binds (ps := ["numbers"]) fun _ _ _ _ _ _ us hl => match us, hl with | [_], _ => rfl
  obtain ⟨fd_in_order, FD_in_order⟩ := c.def_ 18 (d := mkD "in_order" s_in_order) rfl
  have F_in_order : Fun K "in_order" "in_order" s_in_order (He.ga K "in_order") fd_in_order := fun_of FD_in_order
  have b_in_order : Binds K fd_in_order ["numbers"] [] := F_in_order.binds (ps := ["numbers"]) fun _ _ _ _ _ _ us hl => match us, hl with | [_], _ => rfl
  obtain ⟨fd_whole_text, FD_whole_text⟩ := c.def_ 19 (d := mkD "whole_text" s_whole_text) rfl
  have F_whole_text : Fun K "whole_text" "whole_text" s_whole_text (He.ga K "whole_text") fd_whole_text := fun_of FD_whole_text
  have b_whole_text : Binds K fd_whole_text ["n"] [] := F_whole_text.binds (ps := ["n"]) fun _ _ _ _ _ _ us hl => match us, hl with | [_], _ => rfl
  obtain ⟨fd_number_text, FD_number_text⟩ := c.def_ 20 (d := mkD "number_text" s_number_text) rfl
  have F_number_text : Fun K "number_text" "number_text" s_number_text (He.ga K "number_text") fd_number_text := fun_of FD_number_text
  have b_number_text : Binds K fd_number_text ["a"] [] := F_number_text.binds (ps := ["a"]) fun _ _ _ _ _ _ us hl => match us, hl with | [_], _ => rfl
  obtain ⟨fd_l_bag, FD_l_bag⟩ := c.def_ 21 (d := mkD "_law_bag" s_l_bag) rfl
  have F_l_bag : Fun K "_law_bag" "_law_bag" s_l_bag (He.ga K "_law_bag") fd_l_bag := fun_of FD_l_bag
  have b_l_bag : Binds K fd_l_bag ["_law_script"] [] := F_l_bag.binds (ps := ["_law_script"]) fun _ _ _ _ _ _ us hl => match us, hl with | [_], _ => rfl
  obtain ⟨fd_l_draw, FD_l_draw⟩ := c.def_ 22 (d := mkD "_law_draw" s_l_draw) rfl
  have F_l_draw : Fun K "_law_draw" "_law_draw" s_l_draw (He.ga K "_law_draw") fd_l_draw := fun_of FD_l_draw
  have b_l_draw : Binds K fd_l_draw ["_law_bag_here", "_law_many"] [] := F_l_draw.binds (ps := ["_law_bag_here", "_law_many"]) fun _ _ _ _ _ _ us hl => match us, hl with | [_, _], _ => rfl
  obtain ⟨fd_l_of, FD_l_of⟩ := c.def_ 23 (d := mkD "_law_of" s_l_of) rfl
  have F_l_of : Fun K "_law_of" "_law_of" s_l_of (He.ga K "_law_of") fd_l_of := fun_of FD_l_of
  have b_l_of : Binds K fd_l_of ["_law_bag_here", "_law_things"] [] := F_l_of.binds (ps := ["_law_bag_here", "_law_things"]) fun _ _ _ _ _ _ us hl => match us, hl with | [_, _], _ => rfl
  obtain ⟨fd_l_like, FD_l_like⟩ := c.def_ 24 (d := mkD "_law_like" s_l_like) rfl
  have F_l_like : Fun K "_law_like" "_law_like" s_l_like (He.ga K "_law_like") fd_l_like := fun_of FD_l_like
  have b_l_like : Binds K fd_l_like ["_law_found", "_law_due"] [] := F_l_like.binds (ps := ["_law_found", "_law_due"]) fun _ _ _ _ _ _ us hl => match us, hl with | [_, _], _ => rfl
  obtain ⟨fd_l_low, FD_l_low⟩ := c.def_ 25 (d := mkD "_law_low" s_l_low) rfl
  have F_l_low : Fun K "_law_low" "_law_low" s_l_low (He.ga K "_law_low") fd_l_low := fun_of FD_l_low
  have b_l_low : Binds K fd_l_low ["_law_one"] [] := F_l_low.binds (ps := ["_law_one"]) fun _ _ _ _ _ _ us hl => match us, hl with | [_], _ => rfl
  obtain ⟨fd_l_under, FD_l_under⟩ := c.def_ 26 (d := mkD "_law_under" s_l_under) rfl
  have F_l_under : Fun K "_law_under" "_law_under" s_l_under (He.ga K "_law_under") fd_l_under := fun_of FD_l_under
  have b_l_under : Binds K fd_l_under ["_law_one", "_law_two"] [] := F_l_under.binds (ps := ["_law_one", "_law_two"]) fun _ _ _ _ _ _ us hl => match us, hl with | [_, _], _ => rfl
  obtain ⟨fd_l_add, FD_l_add⟩ := c.def_ 27 (d := mkD "_law_add" s_l_add) rfl
  have F_l_add : Fun K "_law_add" "_law_add" s_l_add (He.ga K "_law_add") fd_l_add := fun_of FD_l_add
  have b_l_add : Binds K fd_l_add ["_law_one", "_law_two"] [] := F_l_add.binds (ps := ["_law_one", "_law_two"]) fun _ _ _ _ _ _ us hl => match us, hl with | [_, _], _ => rfl
  obtain ⟨fd_l_take, FD_l_take⟩ := c.def_ 28 (d := mkD "_law_take" s_l_take) rfl
  have F_l_take : Fun K "_law_take" "_law_take" s_l_take (He.ga K "_law_take") fd_l_take := fun_of FD_l_take
  have b_l_take : Binds K fd_l_take ["_law_one", "_law_two"] [] := F_l_take.binds (ps := ["_law_one", "_law_two"]) fun _ _ _ _ _ _ us hl => match us, hl with | [_, _], _ => rfl
  obtain ⟨fd_l_mul, FD_l_mul⟩ := c.def_ 29 (d := mkD "_law_mul" s_l_mul) rfl
  have F_l_mul : Fun K "_law_mul" "_law_mul" s_l_mul (He.ga K "_law_mul") fd_l_mul := fun_of FD_l_mul
  have b_l_mul : Binds K fd_l_mul ["_law_one", "_law_two"] [] := F_l_mul.binds (ps := ["_law_one", "_law_two"]) fun _ _ _ _ _ _ us hl => match us, hl with | [_, _], _ => rfl
  obtain ⟨fd_l_sorted, FD_l_sorted⟩ := c.def_ 30 (d := mkD "_law_sorted" s_l_sorted) rfl
  have F_l_sorted : Fun K "_law_sorted" "_law_sorted" s_l_sorted (He.ga K "_law_sorted") fd_l_sorted := fun_of FD_l_sorted
  have b_l_sorted : Binds K fd_l_sorted ["_law_many"] [] := F_l_sorted.binds (ps := ["_law_many"]) fun _ _ _ _ _ _ us hl => match us, hl with | [_], _ => rfl
  obtain ⟨fd_l_number, FD_l_number⟩ := c.def_ 31 (d := mkD "_law_number" s_l_number) rfl
  have F_l_number : Fun K "_law_number" "_law_number" s_l_number (He.ga K "_law_number") fd_l_number := fun_of FD_l_number
  have b_l_number : Binds K fd_l_number ["_law_one"] [] := F_l_number.binds (ps := ["_law_one"]) fun _ _ _ _ _ _ us hl => match us, hl with | [_], _ => rfl
  obtain ⟨fd_l_handed, FD_l_handed⟩ := c.def_ 32 (d := mkD "_law_handed" s_l_handed) rfl
  have F_l_handed : Fun K "_law_handed" "_law_handed" s_l_handed (He.ga K "_law_handed") fd_l_handed := fun_of FD_l_handed
  have b_l_handed : Binds K fd_l_handed ["_law_bag_here", "_law_one"] [] := F_l_handed.binds (ps := ["_law_bag_here", "_law_one"]) fun _ _ _ _ _ _ us hl => match us, hl with | [_, _], _ => rfl
  obtain ⟨fd_l_drawn, FD_l_drawn⟩ := c.def_ 33 (d := mkD "_law_drawn" s_l_drawn) rfl
  have F_l_drawn : Fun K "_law_drawn" "_law_drawn" s_l_drawn (He.ga K "_law_drawn") fd_l_drawn := fun_of FD_l_drawn
  have b_l_drawn : Binds K fd_l_drawn ["_law_bag_here"] [] := F_l_drawn.binds (ps := ["_law_bag_here"]) fun _ _ _ _ _ _ us hl => match us, hl with | [_], _ => rfl
  obtain ⟨fd_l_text, FD_l_text⟩ := c.def_ 34 (d := mkD "_law_text" s_l_text) rfl
  have F_l_text : Fun K "_law_text" "_law_text" s_l_text (He.ga K "_law_text") fd_l_text := fun_of FD_l_text
  have b_l_text : Binds K fd_l_text ["_law_one"] [] := F_l_text.binds (ps := ["_law_one"]) fun _ _ _ _ _ _ us hl => match us, hl with | [_], _ => rfl
  obtain ⟨fd_l_good, FD_l_good⟩ := c.def_ 35 (d := mkD "_law_good" s_l_good) rfl
  have F_l_good : Fun K "_law_good" "_law_good" s_l_good (He.ga K "_law_good") fd_l_good := fun_of FD_l_good
  have b_l_good : Binds K fd_l_good ["_law_bag_here"] [] := F_l_good.binds (ps := ["_law_bag_here"]) fun _ _ _ _ _ _ us hl => match us, hl with | [_], _ => rfl
  obtain ⟨fd_l_near_text, FD_l_near_text⟩ := c.def_ 36 (d := mkD "_law_near_text" s_l_near_text) rfl
  have F_l_near_text : Fun K "_law_near_text" "_law_near_text" s_l_near_text (He.ga K "_law_near_text") fd_l_near_text := fun_of FD_l_near_text
  have b_l_near_text : Binds K fd_l_near_text ["_law_bag_here", "_law_one"] [] := F_l_near_text.binds (ps := ["_law_bag_here", "_law_one"]) fun _ _ _ _ _ _ us hl => match us, hl with | [_, _], _ => rfl
  obtain ⟨fd_l_near, FD_l_near⟩ := c.def_ 37 (d := mkD "_law_near" s_l_near) rfl
  have F_l_near : Fun K "_law_near" "_law_near" s_l_near (He.ga K "_law_near") fd_l_near := fun_of FD_l_near
  have b_l_near : Binds K fd_l_near ["_law_bag_here", "_law_one"] [] := F_l_near.binds (ps := ["_law_bag_here", "_law_one"]) fun _ _ _ _ _ _ us hl => match us, hl with | [_, _], _ => rfl
  obtain ⟨fd_l_refused, FD_l_refused⟩ := c.def_ 38 (d := mkD "_law_refused" s_l_refused) rfl
  have F_l_refused : Fun K "_law_refused" "_law_refused" s_l_refused (He.ga K "_law_refused") fd_l_refused := fun_of FD_l_refused
  have b_l_refused : Binds K fd_l_refused ["_law_thing"] [] := F_l_refused.binds (ps := ["_law_thing"]) fun _ _ _ _ _ _ us hl => match us, hl with | [_], _ => rfl
  obtain ⟨fd_l_over_none, FD_l_over_none⟩ := c.def_ 39 (d := mkD "_law_over_none" s_l_over_none) rfl
  have F_l_over_none : Fun K "_law_over_none" "_law_over_none" s_l_over_none (He.ga K "_law_over_none") fd_l_over_none := fun_of FD_l_over_none
  have b_l_over_none : Binds K fd_l_over_none ["_law_bag_here", "_law_one"] [] := F_l_over_none.binds (ps := ["_law_bag_here", "_law_one"]) fun _ _ _ _ _ _ us hl => match us, hl with | [_, _], _ => rfl
  obtain ⟨fd_l_step, FD_l_step⟩ := c.def_ 40 (d := mkD "_law_step" s_l_step) rfl
  have F_l_step : Fun K "_law_step" "_law_step" s_l_step (He.ga K "_law_step") fd_l_step := fun_of FD_l_step
  have b_l_step : Binds K fd_l_step ["_law_bag_here", "_law_way", "_law_one", "_law_two"] [] := F_l_step.binds (ps := ["_law_bag_here", "_law_way", "_law_one", "_law_two"]) fun _ _ _ _ _ _ us hl => match us, hl with | [_, _, _, _], _ => rfl
  obtain ⟨fd_l_runs, FD_l_runs⟩ := c.def_ 41 (d := mkD "_law_runs" s_l_runs) rfl
  have F_l_runs : Fun K "_law_runs" "_law_runs" s_l_runs (He.ga K "_law_runs") fd_l_runs := fun_of FD_l_runs
  have b_l_runs : Binds K fd_l_runs ["_law_bag_here", "_law_pool"] [] := F_l_runs.binds (ps := ["_law_bag_here", "_law_pool"]) fun _ _ _ _ _ _ us hl => match us, hl with | [_, _], _ => rfl
  obtain ⟨fd_l_lists, FD_l_lists⟩ := c.def_ 42 (d := mkD "_law_lists" s_l_lists) rfl
  have F_l_lists : Fun K "_law_lists" "_law_lists" s_l_lists (He.ga K "_law_lists") fd_l_lists := fun_of FD_l_lists
  have b_l_lists : Binds K fd_l_lists ["_law_bag_here", "_law_pool"] [] := F_l_lists.binds (ps := ["_law_bag_here", "_law_pool"]) fun _ _ _ _ _ _ us hl => match us, hl with | [_, _], _ => rfl
  obtain ⟨fd_l_is_own, FD_l_is_own⟩ := c.def_ 43 (d := mkD "_law_is_own" s_l_is_own) rfl
  have F_l_is_own : Fun K "_law_is_own" "_law_is_own" s_l_is_own (He.ga K "_law_is_own") fd_l_is_own := fun_of FD_l_is_own
  have b_l_is_own : Binds K fd_l_is_own ["_law_thing"] [] := F_l_is_own.binds (ps := ["_law_thing"]) fun _ _ _ _ _ _ us hl => match us, hl with | [_], _ => rfl
  obtain ⟨fd_law, FD_law⟩ := c.def_ 44 (d := mkD "law" s_law) rfl
  have F_law : Fun K "law" "law" s_law (He.ga K "law") fd_law := fun_of FD_law
  have b_law : Binds K fd_law ["_law_script"] [] := F_law.binds (ps := ["_law_script"]) fun _ _ _ _ _ _ us hl => match us, hl with | [_], _ => rfl
  have kb_times : KBinds K fd_times ["a", "b"] ["b", "a"] (fun us ws => gRev us ws) (fun us ws => gRev us ws) := kbs F_times ["b", "a"] gRev (fun _ _ _ _ a b => a.append b.reverse) fun _ _ _ _ _ _ us ws hl => by
    have hl2 : us.length + ws.length = 2 := by simpa [gRev] using hl
    rcases us with _ | ⟨u1, _ | ⟨u2, _ | ⟨u3, us⟩⟩⟩ <;> rcases ws with _ | ⟨w1, _ | ⟨w2, _ | ⟨w3, ws⟩⟩⟩ <;> first
      | (exfalso; simp at hl2; done)
      | (exfalso; simp at hl2; omega)
      | rfl
  have kb_exact : KBinds K fd_exact ["value"] ["value"] (fun us ws => gApp us ws) (fun us ws => gApp us ws) := kbs F_exact ["value"] gApp (fun _ _ _ _ => Vals.append) fun _ _ _ _ _ _ us ws hl => by
    have hl2 : us.length + ws.length = 1 := by simpa [gApp] using hl
    rcases us with _ | ⟨u1, _ | ⟨u2, _ | ⟨u3, us⟩⟩⟩ <;> rcases ws with _ | ⟨w1, _ | ⟨w2, _ | ⟨w3, ws⟩⟩⟩ <;> first
      | (exfalso; simp at hl2; done)
      | (exfalso; simp at hl2; omega)
      | rfl
  have e := hfa.symm.trans (glo "law" (by decide +kernel))
  cases e
  refine ⟨fd_law, fun s v => ?_, fun base kb gb => ?_⟩
  · have b := FD_law.bindsA (ps := ["_law_script"]) fun _ _ _ _ _ _ us hl => match us, hl with | [_], _ => rfl
    exact b s [v] rfl
  · skip
    have D_is_whole : Df P w K mg base 1 "is_whole" _ ["value"] spWhole := ⟨glo _ (by decide +kernel), F_is_whole.kp, _, ok_is_whole F_is_whole B , b_is_whole⟩
    have D_reduced : Df P w K mg base 1 "reduced" _ ["n", "d"] spReduced := ⟨glo _ (by decide +kernel), F_reduced.kp, _, ok_reduced F_reduced B hg, b_reduced⟩
    have D_pair : Df P w K mg base 1 "pair" _ ["a"] spPair := ⟨glo _ (by decide +kernel), F_pair.kp, _, ok_pair F_pair B , b_pair⟩
    have D_is_fraction : Df P w K mg base 2 "is_fraction" _ ["value"] spFrac := ⟨glo _ (by decide +kernel), F_is_fraction.kp, _, ok_is_fraction F_is_fraction B D_is_whole, b_is_fraction⟩
    have D_is_number : Df P w K mg base 3 "is_number" _ ["value"] spNum := ⟨glo _ (by decide +kernel), F_is_number.kp, _, ok_is_number F_is_number B hg D_is_whole D_is_fraction, b_is_number⟩
    have D_has_digits : Df P w K mg base 1 "has_digits" _ ["text"] spDigits := ⟨glo _ (by decide +kernel), F_has_digits.kp, _, ok_has_digits F_has_digits B c_MOST_DIGITS c_DIGITS, b_has_digits⟩
    have D_read_number : Df P w K mg base 2 "read_number" _ ["text"] spRead := ⟨glo _ (by decide +kernel), F_read_number.kp, _, ok_read_number F_read_number B hg D_has_digits, b_read_number⟩
    have D_plus : Df P w K mg base 2 "plus" _ ["a", "b"] (spOp add) := ⟨glo _ (by decide +kernel), F_plus.kp, _, ok_plus F_plus B D_pair D_reduced, b_plus⟩
    have D_minus : Df P w K mg base 2 "minus" _ ["a", "b"] (spOp sub) := ⟨glo _ (by decide +kernel), F_minus.kp, _, ok_minus F_minus B D_pair D_reduced, b_minus⟩
    have D_over : Df P w K mg base 2 "over" _ ["a", "b"] spOver := ⟨glo _ (by decide +kernel), F_over.kp, _, ok_over F_over B D_pair D_reduced, b_over⟩
    have D_below : Df P w K mg base 1 "below" _ ["a", "b"] spBelow := ⟨glo _ (by decide +kernel), F_below.kp, _, ok_below F_below B , b_below⟩
    have D_compare : Df P w K mg base 2 "compare" _ ["a", "b"] spCompare := ⟨glo _ (by decide +kernel), F_compare.kp, _, ok_compare F_compare B D_pair D_below, b_compare⟩
    have D_least : Df P w K mg base 2 "least" _ ["numbers"] (spBest K lst) := ⟨glo _ (by decide +kernel), F_least.kp, _, ok_least F_least B D_pair D_below, b_least⟩
    have D_greatest_of : Df P w K mg base 2 "greatest_of" _ ["numbers"] (spBest K grt) := ⟨glo _ (by decide +kernel), F_greatest_of.kp, _, ok_greatest_of F_greatest_of B D_pair D_below, b_greatest_of⟩
    have D_sort_keys : Df P w K mg base 1 "sort_keys" _ ["numbers"] (spKeys K) := ⟨glo _ (by decide +kernel), F_sort_keys.kp, _, ok_sort_keys F_sort_keys B , b_sort_keys⟩
    have D_whole_text : Df P w K mg base 1 "whole_text" _ ["n"] spWText := ⟨glo _ (by decide +kernel), F_whole_text.kp, _, ok_whole_text F_whole_text B , b_whole_text⟩
    have D_number_text : Df P w K mg base 2 "number_text" _ ["a"] spText := ⟨glo _ (by decide +kernel), F_number_text.kp, _, ok_number_text F_number_text B D_pair D_whole_text, b_number_text⟩
    have D_exact : Df P w K mg base 3 "exact" _ ["value"] spExact := ⟨glo _ (by decide +kernel), F_exact.kp, _, ok_exact F_exact B D_is_whole D_is_fraction D_reduced D_read_number, b_exact⟩
    have D_l_draw : Df P w K mg base 1 "_law_draw" _ ["_law_bag_here", "_law_many"] spDraw := ⟨glo _ (by decide +kernel), F_l_draw.kp, _, ok_draw F_l_draw B , b_l_draw⟩
    have D_l_bag : Df P w K mg base 1 "_law_bag" _ ["_law_script"] (spBag K) := ⟨glo _ (by decide +kernel), F_l_bag.kp, _, ok_bag F_l_bag B , b_l_bag⟩
    have D_l_of : Df P w K mg base 2 "_law_of" _ ["_law_bag_here", "_law_things"] spOf := ⟨glo _ (by decide +kernel), F_l_of.kp, _, ok_of F_l_of B D_l_draw, b_l_of⟩
    have D_l_low : Df P w K mg base 1 "_law_low" _ ["_law_one"] spLow := ⟨glo _ (by decide +kernel), F_l_low.kp, _, ok_l_low F_l_low B , b_l_low⟩
    have D_l_under : Df P w K mg base 1 "_law_under" _ ["_law_one", "_law_two"] spBelow := ⟨glo _ (by decide +kernel), F_l_under.kp, _, ok_l_under F_l_under B , b_l_under⟩
    have D_l_add : Df P w K mg base 2 "_law_add" _ ["_law_one", "_law_two"] (spLop add) := ⟨glo _ (by decide +kernel), F_l_add.kp, _, ok_l_add F_l_add B D_l_low, b_l_add⟩
    have D_l_take : Df P w K mg base 2 "_law_take" _ ["_law_one", "_law_two"] (spLop sub) := ⟨glo _ (by decide +kernel), F_l_take.kp, _, ok_l_take F_l_take B D_l_low, b_l_take⟩
    have D_l_mul : Df P w K mg base 2 "_law_mul" _ ["_law_one", "_law_two"] (spLop mul) := ⟨glo _ (by decide +kernel), F_l_mul.kp, _, ok_l_mul F_l_mul B D_l_low, b_l_mul⟩
    have D_l_sorted : Df P w K mg base 2 "_law_sorted" _ ["_law_many"] (spSorted K) := ⟨glo _ (by decide +kernel), F_l_sorted.kp, _, ok_l_sorted F_l_sorted B D_l_under, b_l_sorted⟩
    have D_l_number : Df P w K mg base 2 "_law_number" _ ["_law_one"] spLnum := ⟨glo _ (by decide +kernel), F_l_number.kp, _, ok_l_number F_l_number B D_l_low, b_l_number⟩
    have D_l_is_own : Df P w K mg base 3 "_law_is_own" _ ["_law_thing"] spOwn := ⟨glo _ (by decide +kernel), F_l_is_own.kp, _, ok_l_is_own F_l_is_own B D_l_number, b_l_is_own⟩
    have D_l_text : Df P w K mg base 1 "_law_text" _ ["_law_one"] spLtext := ⟨glo _ (by decide +kernel), F_l_text.kp, _, ok_l_text F_l_text B , b_l_text⟩
    have D_l_handed : Df P w K mg base 2 "_law_handed" _ ["_law_bag_here", "_law_one"] spHanded := ⟨glo _ (by decide +kernel), F_l_handed.kp, _, ok_l_handed F_l_handed B D_l_draw, b_l_handed⟩
    have D_l_drawn : Df P w K mg base 3 "_law_drawn" _ ["_law_bag_here"] spDrawn := ⟨glo _ (by decide +kernel), F_l_drawn.kp, _, ok_l_drawn F_l_drawn B D_l_draw D_l_of D_l_low, b_l_drawn⟩
    have D_l_good : Df P w K mg base 4 "_law_good" _ ["_law_bag_here"] spGood := ⟨glo _ (by decide +kernel), F_l_good.kp, _, ok_l_good F_l_good B D_l_draw D_l_of D_l_low D_l_drawn D_l_text, b_l_good⟩
    have D_l_near_text : Df P w K mg base 3 "_law_near_text" _ ["_law_bag_here", "_law_one"] spNearT := ⟨glo _ (by decide +kernel), F_l_near_text.kp, _, ok_l_near_text F_l_near_text B D_l_draw D_l_of D_l_text, b_l_near_text⟩
    have D_l_near : Df P w K mg base 4 "_law_near" _ ["_law_bag_here", "_law_one"] spNear := ⟨glo _ (by decide +kernel), F_l_near.kp, _, ok_l_near F_l_near B D_l_draw D_l_of D_l_near_text, b_l_near⟩
    have D_l0 : Df P w K mg base 1 "_law_like" _ ["_law_found", "_law_due"] (spLike 0) := ⟨glo _ (by decide +kernel), F_l_like.kp, _, ok_like0 F_l_like B, b_l_like⟩
    have D_l1 : Df P w K mg base 2 "_law_like" _ ["_law_found", "_law_due"] (spLike 1) := ⟨glo _ (by decide +kernel), F_l_like.kp, _, ok_like (n := 0) (m := 1) F_l_like B D_l0, b_l_like⟩
    have D_l2 : Df P w K mg base 3 "_law_like" _ ["_law_found", "_law_due"] (spLike 2) := ⟨glo _ (by decide +kernel), F_l_like.kp, _, ok_like (n := 1) (m := 2) F_l_like B D_l1, b_l_like⟩
    have D_l3 : Df P w K mg base 4 "_law_like" _ ["_law_found", "_law_due"] (spLike 3) := ⟨glo _ (by decide +kernel), F_l_like.kp, _, ok_like (n := 2) (m := 3) F_l_like B D_l2, b_l_like⟩
    have D_l4 : Df P w K mg base 5 "_law_like" _ ["_law_found", "_law_due"] (spLike 4) := ⟨glo _ (by decide +kernel), F_l_like.kp, _, ok_like (n := 3) (m := 4) F_l_like B D_l3, b_l_like⟩
    have D_in_order : Df P w K mg base 2 "in_order" _ ["numbers"] (spOrd2 K) := ⟨glo _ (by decide +kernel), F_in_order.kp, _, fnOk_or (ok_in_orderT F_in_order B D_pair D_sort_keys) (ok_in_order F_in_order B D_pair D_sort_keys), b_in_order⟩
    have DK_times : DfK P w K mg base 2 "times" _ ["a", "b"] ["b", "a"] gRev (spOp mul) := ⟨glo _ (by decide +kernel), F_times.kp, _, ok_times F_times B D_pair D_reduced, kb_times⟩
    have DK_exact : DfK P w K mg base 3 "exact" _ ["value"] ["value"] gApp spExact := ⟨glo _ (by decide +kernel), F_exact.kp, _, ok_exact F_exact B D_is_whole D_is_fraction D_reduced D_read_number, kb_exact⟩
    have Z : Bn P w K mg base (He.ga K "Refused") (He.ga K "BadNumber") := ⟨RT, E, ⟨_, fd_BadNumber, ⟨E.oex, i1, i2⟩, in_BadNumber F_BadNumber RT E, bd_BadNumber F_BadNumber⟩, of_decide_eq_true x5⟩
    have D_l_refused : Df P w K mg base 4 "_law_refused" _ ["_law_thing"] spRefused := ⟨glo _ (by decide +kernel), F_l_refused.kp, _, ok_l_refused F_l_refused B Z (glo "exact" (by decide +kernel)) F_exact.kp ⟨_, ok_exactX F_exact B Z D_is_whole D_is_fraction D_reduced D_read_number, b_exact⟩, b_l_refused⟩
    have D_l_over_none : Df P w K mg base 5 "_law_over_none" _ ["_law_bag_here", "_law_one"] spOverNone := ⟨glo _ (by decide +kernel), F_l_over_none.kp, _, ok_l_over_none F_l_over_none B Z D_l_of D_l_handed (glo "over" (by decide +kernel)) F_over.kp ⟨_, ok_overXN F_over B Z D_pair D_reduced, b_over⟩
      (glo "_law_like" (by decide +kernel)) F_l_like.kp ⟨_, ok_likeH F_l_like B (glo "_law_like" (by decide +kernel)) F_l_like.kp ⟨_, ok_likeI F_l_like B, b_l_like⟩, b_l_like⟩, b_l_over_none⟩
    have D_l_step : Df P w K mg base 3 "_law_step" _ ["_law_bag_here", "_law_way", "_law_one", "_law_two"] spStep := ⟨glo _ (by decide +kernel), F_l_step.kp, _, ok_l_step F_l_step B D_l_handed D_plus D_minus DK_times D_over D_l_add D_l_take D_l_mul, b_l_step⟩
    have D_l_runs : Df P w K mg base 6 "_law_runs" _ ["_law_bag_here", "_law_pool"] spRuns := ⟨glo _ (by decide +kernel), F_l_runs.kp, _, ok_l_runs F_l_runs B D_l_draw D_l_of D_l_handed D_l_under D_compare D_l4 D_l_over_none D_l_step D_number_text D_l_text D_exact D_is_number, b_l_runs⟩
    have D_l_lists : Df P w K mg base 6 "_law_lists" _ ["_law_bag_here", "_law_pool"] spLists := ⟨glo _ (by decide +kernel), F_l_lists.kp, _, ok_l_lists F_l_lists B D_l_draw D_l_of D_l_handed D_l_sorted D_in_order D_l4 D_least D_greatest_of, b_l_lists⟩
    exact ok_law F_law B D_l_bag D_l_good D_l4 DK_exact D_is_number D_l_is_own D_l_near D_l_drawn D_l_refused D_l_runs D_l_lists
end Ko
open PySem PySem.Calls PySem.W PyProof.Rows
theorem PySem.Challenge.cw_mostlaid_k01_exact_numbers_holds : PySem.Challenge.rw_mostlaid_k01_exact_numbers.Holds := by
  w_on; o_law
  refine HandSHeadRun.head_imp (r := Ko.Rw) (q := Ko.vw) (H := Ko.hk) (ob := Ko.ob) (M := 9000) (loose := Ko.loose) (d := Ko.dl) (kwd := []) Ko.ob_eq
    Ko.run Ko.hd1 Ko.hd2 Ko.hd3 (by rfl) (by first | assumption | decide +kernel) (by decide +kernel) ⟨rfl, rfl, rfl, rfl, rfl, by decide +kernel⟩ ?hw ?hc
  case hw => w_witness2
  case hc =>
    refine L2.walk_ofE (l := PySem.Challenge.rw_mostlaid_k01_exact_numbers) (n := 63) (k := 7) (x := "_law_script") (CX := L2.CX0) rfl (by decide) (by kernel_rfl) ⟨rfl, by decide, by decide⟩ ?F (fun _ _ _ _ z => z)
    intro w mg fa h Y G hmg0
    obtain ⟨K, KX, x, c⟩ := Y
    have hmg : mg ("law" : PySem.Str) = some (.ref fa) := by
      rw [← Ko.hd4]
      exact hmg0
    obtain ⟨fd, hb, hF⟩ := Ko.facts (P := PySem.Challenge.rw_mostlaid_k01_exact_numbers.prog) (w := w) KX G hmg x c
    exact ⟨K, fd, Ko.spLaw K, KX, hb, fun H a ns hl _ hS => ⟨a, ns, rfl, hS, fun _ => rfl⟩, hF⟩

