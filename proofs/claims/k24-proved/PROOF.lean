import PyProof.Rows.All
import PySem.Challenge.RW_mostlaid_k24_lofts_told
import Wide.All
import OpenK.AllK
import Wide.FinOn
import PyProof.EqAt
import PyProof.EqKinds
import PyProof.TupleCall
import HandS.ForMost
import HandS.Exc
import HandS.ExcOwn
import HandS.WordsExc
import HandS.ExcInit
import HandS.ExcIs
import HandS.ExcField
import HandS.ExcValue
import HandS.IsInst
import HandS.ClsMeth
import HandS.Defaults
import HandS.HotCalls
import HandS.Conv
import HandS.Zip
import HandS.Iter
import HandS.More
import HandS.Flow
import HandS.Gcd
import HandS.FStr
import HandS.Wide
import HandS.WideBits
import HandS.Style
import HandS.Sort
import HandS.SortInts
import HandS.Walk
import HandS.Deep
import HandS.StrMore
import HandS.Text
import HandS.Dict
import HandS.Codes
import HandS.ListItems
import HandS.Rev
import KE.KStateDown
import HandS.Head0
import HandS.Head1
import HandS.Head2
import HandS.Head3
import HandS.HeadEnd
import HandS.HeadHook1
import HandS.HeadHook2
import HandS.HeadHook4
import HandS.HeadWalk
import HandS.SortKw
import PyProof.WalkInts
import KE.KMinKey
import KE.KDictZip
import HandS.Zip0
import KE.GoesEnum
import HandS.SlotsOwn
import HandS.OwnEq
import HandS.SortOrd
import HandS.SortRule
import HandS.DictTup
import HandS.CallLocal
import KE.KDictCopyH
import KE.KDictSum
import HandS.TupAny
import HandS.Lambda
import HandS.MakeKwOnly
set_option Elab.async false
set_option linter.all false
set_option maxRecDepth 100000
set_option maxHeartbeats 0
set_option exponentiation.threshold 10000
/-! Rules for errors of the program: made as values, by position and by name; their fields; isinstance; raised -/
namespace PySem
namespace KoX
open Builtin Builtin.ObjectAttr HandSPX
section
variable {M : Model} {A : Around} {E : Value → Shared → Prop} {hh : Heap} {gs : Array GenState} {dn : Drawn} {tn : Nat} {os : OsState}
variable {nm qn : Str} {C N : Addr} {bs bm bB : List Value} {hd : Bool} {sn : List Str} {sub : List Value} {ab : Bool} {col : Option Bool} {dd : Option Addr}
variable {k0 k1 k2 k3 k5 : Option Value} {B nid iid : String}
theorem chk_new (F : ExcBaseFacts B nid iid bB) (hT : ∀ Y : String, bm.contains (.type Y) = bB.contains (.type Y)) {args : List Value} {kw : List (Str × Value)}
    {Q : Unit → Shared → Prop} (hC : hh.get? C = some (excClassObj nm qn C N bs bm hd sn sub ab col dd k0 k1 k2 k3 k5 nid)) (hq : Q () ⟨hh, gs, dn, tn, os⟩) :
    wpAny M A (checkBuiltinCall nid ⟨.ref C :: args, kw⟩) Q E ⟨hh, gs, dn, tn, os⟩ := by
  have inB : (Value.ref C :: bm).contains (.type B) = true := by
    rw [List.contains_cons, hT, F.hasB, Bool.or_true]
  have star := F.noStar
  simp only [checkBuiltinCall, F.newSplit, F.newKind, F.newRow]
  repeat (first
    | refine wpAny_loadPart_at hC ?_
    | (refine wpAny_isSubtype_exc hC ?_; rw [inB])
    | refine wpAny_staticBase_exc hC ?_
    | refine wpAny_madeBy_exc hC ?_
    | simp only [bne_self_eq_false, Bool.false_eq_true, if_false]
    | wp_step)
  exact hq
end
section
variable {prog : Program} {w : World} {A : Around} {E : Value → Shared → Prop} {R : Result → Shared → Prop} {hh : Heap} {gs : Array GenState} {dn : Drawn} {tn : Nat} {os : OsState}
variable {nm qn : Str} {C N : Addr} {bs bm bB : List Value} {hd : Bool} {sn : List Str} {sub : List Value} {ab : Bool} {col : Option Bool} {dd : Option Addr}
variable {k0 k1 k2 k3 k5 : Option Value} {B nid iid : String}
theorem mk_new (F : ExcBaseFacts B nid iid bB) (hT : ∀ Y : String, bm.contains (.type Y) = bB.contains (.type Y)) {args : List Value} {kw : List (Str × Value)}
    (hC : hh.get? C = some (excClassObj nm qn C N bs bm hd sn sub ab col dd k0 k1 k2 k3 k5 nid))
    (hq : R (.ok (.ret (.ref (hh.objs.size + 1)))) ⟨(hh.push (W.kdv_tup args)).push (excO C hh.objs.size), gs, dn, tn, os⟩) (ha : args.length ≤ sizeLine) :
    codeAny (model prog w) A (.builtin nid ⟨.ref C :: args, kw⟩) R ⟨hh, gs, dn, tn, os⟩ := by
  have en := F.ends
  have inB : (Value.ref C :: bm).contains (.type B) = true := by
    rw [List.contains_cons, hT, F.hasB, Bool.or_true]
  have outA : (Value.ref C :: bm).contains (.type "AttributeError") = false := by
    rw [List.contains_cons, hT, F.noAttr]
    rfl
  have outN : (Value.ref C :: bm).contains (.type "NameError") = false := by
    rw [List.contains_cons, hT, F.noName]
    rfl
  refine codeAny_builtinAt F.entry (show wpAt _ _ _ (Builtin.«BaseException.__new__» _) _ _ _ from ?_)
  delta Builtin.«BaseException.__new__»
  refine wpAt_bind (show wpAt _ _ _ (stack >>= _) _ _ _ from wpAt_bind (wpAt_stack fun _ _ => wpAt_of_wpAny ?_))
  wp_walk
  refine wpAt_of_wpAny ?_
  rw [F.owner]
  repeat (first
    | with_reducible refine wpAny_madeHere_exc F.canon hC ?_
    | with_reducible refine wpAny_loadPart_at hC ?_
    | (with_reducible refine wpAny_isSubtype_exc hC ?_; first | rw [inB] | rw [outA] | rw [outN])
    | wp_step)
  show R _ _
  rw [Heap.size_push]
  exact hq
theorem mk_type (F : ExcBaseFacts B nid iid bB) (hT : ∀ Y : String, bm.contains (.type Y) = bB.contains (.type Y)) {args : List Value} {kw : List (Str × Value)} {fI : Addr}
    {Q : Fin → Shared → Prop} (hC : hh.get? C = some (excClassObj nm qn C N bs bm hd sn sub ab col dd k0 k1 k2 k3 k5 nid))
    (hi : W.Looks (model prog w) hh (typeLookup (.ref C) "__init__") (some (.ref fI))) (hb : ∀ self, W.Looks (model prog w) hh (bindSpecial (.ref fI) self) (.ref fI, [self]))
    (ha : args.length ≤ sizeLine)
    (hq : codeAny (model prog w) A (.call (.ref fI) ⟨.ref (hh.objs.size + 1) :: args, kw⟩)
      (fun r s' => match r with
        | .ok (.ret v) => v = .none ∧ Q (.done (.ret (.ref (hh.objs.size + 1)))) s'
        | .ok _ => False
        | .error e => E e s')
      ⟨(hh.push (W.kdv_tup args)).push (excO C hh.objs.size), gs, dn, tn, os⟩) :
    wpAny (model prog w) A (Builtin.«type.__call__» ⟨.ref C :: args, kw⟩) Q E ⟨hh, gs, dn, tn, os⟩ := by
  repeat (first
    | with_reducible refine wpAny_loadPart_at hC ?_
    | with_reducible refine wpAny_madeBy_exc hC ?_
    | wp_step)
  refine codeAny_call_builtin_code (Code.quiet_builtin _ F.quiet) (chk_new F hT hC ?_)
  refine mk_new F hT hC ?_ ha
  show wpAny _ _ _ _ _ _
  have kp : ∀ b o, hh.get? b = some o → ((hh.push (W.kdv_tup args)).push (excO C hh.objs.size)).get? b = some o := fun b o e =>
    Heap.get?_push_of_some _ (Heap.get?_push_of_some _ e)
  have hC2 := kp _ _ hC
  have at1 : ((hh.push (W.kdv_tup args)).push (excO C hh.objs.size)).get? (hh.objs.size + 1) = some (excO C hh.objs.size) := by
    heap_get
  have inC : (Value.ref C :: bm).contains (.ref C) = true := by
    simp
  have i1 := hi.keeps kp
  have b1 := (hb (.ref (hh.objs.size + 1))).keeps kp
  unfold isInstance
  repeat (first
    | with_reducible refine wpAny_loadPart_at at1 ?_
    | (with_reducible refine wpAny_isSubtype_exc hC2 ?_; rw [inC])
    | wp_step)
  refine (show wpAny _ _ (typeLookup (.ref C) _) _ _ _ from i1.at (wpAny_holding (wpAny_bind (b1.at (wpAny_bind (wpAny_call (codeAny_mono hq fun r s' z => ?_)))))))
  rcases r with e | (v | _ | _ | _)
  all_goals first | exact z | exact z.elim | skip
  obtain ⟨rfl, z⟩ := z
  first
    | (refine wpAny_pure (wpAny_pure ?_); exact z)
    | (wp_walk; exact z)
/-- the class of an error is called: its own __init__ runs upon the new object -/
theorem call_err (F : ExcBaseFacts B nid iid bB) (hT : ∀ Y : String, bm.contains (.type Y) = bB.contains (.type Y)) {args : List Value} {kw : List (Str × Value)} {fI : Addr}
    (hC : hh.get? C = some (excClassObj nm qn C N bs bm hd sn sub ab col dd k0 k1 k2 k3 k5 nid))
    (hi : W.Looks (model prog w) hh (typeLookup (.ref C) "__init__") (some (.ref fI))) (hb : ∀ self, W.Looks (model prog w) hh (bindSpecial (.ref fI) self) (.ref fI, [self]))
    (ha : args.length ≤ sizeLine)
    (hq : codeAny (model prog w) (A.under (.builtin "type.__call__" ⟨.ref C :: args, kw⟩)) (.call (.ref fI) ⟨.ref (hh.objs.size + 1) :: args, kw⟩) (W.InitBack (hh.objs.size + 1) R)
      ⟨(hh.push (W.kdv_tup args)).push (excO C hh.objs.size), gs, dn, tn, os⟩) :
    codeAny (model prog w) A (.call (.ref C) ⟨args, kw⟩) R ⟨hh, gs, dn, tn, os⟩ := by
  have f1 := tc_lookup
  have f2 := tc_bind (.ref C)
  have isT : (⟨hh, gs, dn, tn, os⟩ : Shared).TypeIs (.ref C) "type" := ⟨_, hC, rfl⟩
  refine codeAny_of_tree ?_
  show wpAny (model prog w) _ (callAny (.ref C) _) _ _ _
  repeat (any_goals (first
    | assumption
    | with_reducible refine wpAny_loadPart_at hC ?_
    | wp_step))
  refine ⟨rfl, ?_⟩
  refine codeAny_call_builtin_at (Code.quiet_builtin _ (by decide +kernel)) entry_typeCall (wpAny_check_type_call_sub hC (mk_type F hT hC hi hb ha ?_))
  refine codeAny_mono hq fun res st z => ?_
  rcases res with e | (v | _ | _ | _)
  all_goals exact z
end
end KoX
end PySem

namespace Ko
open PySem L2 PySem.Spec PyProof.Rows
abbrev Si := L2.St
/-- an error at a: its class, its fields (the newest first) -/
def Err (H : Hp) (a C : Addr) (fs : List (Str × V)) : Prop := (fs = [] ∧ H a = some (exo a C none)) ∨ ∃ d, d ≠ a ∧ H a = some (exo a C (some d)) ∧ H d = some (exd d fs)
theorem Err.same {H H' : Hp} {a C : Addr} {fs : List (Str × V)} (e : Err H a C fs) (s : Same H H') : Err H' a C fs := by
  rcases e with ⟨e, q⟩ | ⟨d, ne, q, r⟩
  · exact .inl ⟨e, s _ _ q⟩
  · exact .inr ⟨d, ne, s _ _ q, s _ _ r⟩
section
variable {X : Cx} {CX : CXT} {k n : Nat} {f C : Addr} {fd : FuncData} {ps ks : List Str} {sp : Sp} {x : Str} {p pos : Pos} {e : Expr} {es : List Expr} {kws : List Keyword}
variable {t tk : TA} {g : List Value → List Value → List Value} {gV : List V → List V → List V}
/-- what is asked of the class at C and its __init__ at f -/
structure Mkr (K : PySem.W.Frag) (C f : Addr) : Prop where
  cl : OexC K C
  ini : PySem.W.findIn K (.ref C) "__init__" = some (some (.ref f))
  fn : PySem.W.typeIn K (.ref f) = some (.type "function")
/-- C(.., k = v, ..) of an error's class, as a value -/
def tErr (C : Addr) (n m : Nat) (sp : Sp) (gV : List V → List V → List V) (t tk : TA) : TE := fun σ H Q => t σ H fun vs H1 => tk σ H1 fun zs H2 => vs.length = n ∧ zs.length = m ∧ n ≤ 1000 ∧
  ∀ a, H2 a = none → sp (gV (.ref a :: vs) zs) (upd H2 a (exo a C none)) (fun v H3 => v = .non ∧ Q (.ref a) H3) E0
theorem run_err {pins : List (Addr × Obj)} {σ : Si} {H : Hp} {s : Shared} {Q : VK} {us ws : List Value} {vs zs : List V} (M : Mkr X.K C f) (Fk : FnOk X.prog X.w X.K X.mg X.base CX0 k f fd ps sp)
    (hr : Room (k + 1) X.A) (hb : KBn X.K fd ps (n + 1) ks g gV) (I : Inv X pins σ H s) (r : Vals vs us) (rz : Vals zs ws) (l1 : vs.length = n) (l2 : zs.length = ks.length) (ln : n ≤ 1000)
    (h : ∀ a, H a = none → sp (gV (.ref a :: vs) zs) (upd H a (exo a C none)) (fun v H2 => v = .non ∧ Q (.ref a) H2) E0) :
    wpAny (model X.prog X.w) X.A (call (Value.ref C) us (ks.zip ws)) (EP X pins σ Q) X.xe s := by
  obtain ⟨nm, q, N, bs, bm, sn, sub, ab, col, dd, k0, k1, k2, k3, k5, hC, hbm⟩ := M.cl.cls
  obtain ⟨hp, g0, dr, tk, os⟩ := s
  have sz : hp.objs.size ≤ hp.objs.size + 1 := Nat.le_succ _
  have free : H (hp.objs.size + 1) = none := I.hok.fresh sz
  have kk : ∀ b o, hp.get? b = some o → ((hp.push (PySem.W.kdv_tup us)).push (PySem.HandSPX.excO C hp.objs.size)).get? b = some o := fun b o e =>
    Heap.get?_push_of_some _ (Heap.get?_push_of_some _ e)
  have at1 : ((hp.push (PySem.W.kdv_tup us)).push (PySem.HandSPX.excO C hp.objs.size)).get? (hp.objs.size + 1) = some (PySem.HandSPX.excO C hp.objs.size) := by
    heap_get
  have I2 : Inv X pins σ (upd H (hp.objs.size + 1) (exo (hp.objs.size + 1) C none)) ⟨(hp.push (PySem.W.kdv_tup us)).push (PySem.HandSPX.excO C hp.objs.size), g0, dr, tk, os⟩ :=
    I.laid (t' := tk) (o := exo (hp.objs.size + 1) C none) kk sz (exo_ok at1)
  have hq := h _ free
  have r2 := hb.rel (Paired.cons (show RelV (V.ref (hp.objs.size + 1)) (Value.ref (hp.objs.size + 1)) from rfl) r) rz
  have e1 : (Value.ref (hp.objs.size + 1) :: us).length = n + 1 := by
    rw [List.length_cons, ← Paired.length r, l1]
  have hz : us.length ≤ sizeLine := by
    rw [← r.length, sizeLine_eq]
    omega
  refine wpAny_call (PySem.KoX.call_err PySem.F.excBase_ValueError (fun Y => PySem.HandSPX.refsVE_contains Y bm hbm) (I.kIn _ _ hC) (PySem.W.looks_findIn I.kIn M.ini) (fun self => PySem.W.bind_fn I.kIn self M.fn) hz ?_)
  refine codeAny_mono (Fk.run _ X.stack _ _ ⟨Value.ref (hp.objs.size + 1) :: us, ks.zip ws⟩ (g (Value.ref (hp.objs.size + 1) :: us) ws) _ _ E0 (hr.make C us (ks.zip ws)) (I2.env0.make C us (ks.zip ws))
    (hb.to _ (Value.ref (hp.objs.size + 1) :: us) ws I2.kIn e1 (rz.length.symm.trans l2)) r2 hq) fun r s' hq' => ?_
  cases r with
  | error er => exact False.elim hq'
  | ok fl =>
    cases fl with
    | ret u =>
      obtain ⟨v, H4, I4, rv, ev, q4⟩ := I2.after hq'
      subst ev
      exact ⟨rv, V.ref (hp.objs.size + 1), H4, I4, rfl, q4⟩
    | next => exact (show False from hq').elim
    | brk => exact (show False from hq').elim
    | cont => exact (show False from hq').elim
theorem pe_errK (M : Mkr X.K C f) (Fk : FnOk X.prog X.w X.K X.mg X.base CX0 k f fd ps sp) (hr : Room (k + 1) X.A) (hg : Gl X x) (hm : X.mg x = some (.ref C)) (hb : KBn X.K fd ps (n + 1) ks g gV)
    (ha : PA X (e :: es) t) (hkw : PK X kws tk) (kwAll : (backToKw pos (keywordEach kws X.env)).all (·.1.isSome) = true := by rfl) (kwNms : (backToKw pos (keywordEach kws X.env)).filterMap (·.1) = ks := by rfl)
    (noDbg : (x == ("__debug__" : Str)) = false := by decide) (star1 : starEach (e :: es) X.env = (false, eval e X.env) :: starEach es X.env := by rfl)
    (plain : ((backTo pos (starEach (e :: es) X.env)).any (·.1) || (backToKw pos (keywordEach kws X.env)).any (·.1.isNone)) = false := by rfl) :
    PE X (.Call (.Name x p) (e :: es) kws pos) (tErr C n ks.length sp gV t tk) := by
  refine ⟨fun pins s σ H Q I h => wpAny_Call_Name_kw (ld_glob I hg hm ?_ noDbg)⟩
  refine PySem.W.callWith_KW (h₀ := X.base) I.ok.mod.kin M.cl.kC kwAll (thn (ha.run pos pins s σ H _ I h) fun us s1 hh => ?_) plain star1
  obtain ⟨vs, H1, I1, r, q⟩ := hh
  refine thn (hkw.run pos pins s1 σ H1 _ I1 q) fun ws s2 hh => ?_
  obtain ⟨zs, H2, I2, rz, l1, l2, ln, q2⟩ := hh
  refine ⟨I2.kIn, ?_⟩
  rw [kwNms]
  exact run_err M Fk hr hb I2 r rz l1 l2 ln q2
theorem pe_errK0 (M : Mkr X.K C f) (Fk : FnOk X.prog X.w X.K X.mg X.base CX0 k f fd ps sp) (hr : Room (k + 1) X.A) (hg : Gl X x) (hm : X.mg x = some (.ref C)) (hb : KBn X.K fd ps 1 ks g gV)
    (hkw : PK X kws tk) (kwAll : (backToKw pos (keywordEach kws X.env)).all (·.1.isSome) = true := by rfl) (kwNms : (backToKw pos (keywordEach kws X.env)).filterMap (·.1) = ks := by rfl)
    (noDbg : (x == ("__debug__" : Str)) = false := by decide)
    (plain : ((backTo pos (starEach [] X.env)).any (·.1) || (backToKw pos (keywordEach kws X.env)).any (·.1.isNone)) = false := by rfl) :
    PE X (.Call (.Name x p) [] kws pos) (tErr C 0 ks.length sp gV tNil tk) := by
  refine ⟨fun pins s σ H Q I h => wpAny_Call_Name_kw (ld_glob I hg hm ?_ noDbg)⟩
  refine PySem.W.callWith_KW0 (h₀ := X.base) I.ok.mod.kin M.cl.kC kwAll (thn (hkw.run pos pins s σ H _ I h) fun ws s2 hh => ?_) plain
  obtain ⟨zs, H2, I2, rz, l1, l2, ln, q2⟩ := hh
  refine ⟨I2.kIn, ?_⟩
  rw [kwNms]
  exact run_err (us := []) (vs := []) M Fk hr hb I2 .nil rz rfl l2 (Nat.zero_le _) q2
/-- C(e, ..) -/
theorem pe_errP (M : Mkr X.K C f) (Fk : FnOk X.prog X.w X.K X.mg X.base CX0 k f fd ps sp) (hr : Room (k + 1) X.A) (hg : Gl X x) (hm : X.mg x = some (.ref C)) (hb : KBn X.K fd ps (n + 1) [] g gV)
    (ha : PA X (e :: es) t) (noDbg : (x == ("__debug__" : Str)) = false := by decide) (star1 : starEach (e :: es) X.env = (false, eval e X.env) :: starEach es X.env := by rfl)
    (plain : (backTo pos (starEach es X.env)).any (·.1) = false := by rfl) :
    PE X (.Call (.Name x p) (e :: es) [] pos) (tErr C n 0 sp gV t tNil) := by
  refine ⟨fun pins s σ H Q I h => wpAny_Call_Name_kw (ld_glob I hg hm ?_ noDbg)⟩
  refine PySem.W.callWith_K (h₀ := X.base) I.ok.mod.kin M.cl.kC (thn (ha.run pos pins s σ H _ I h) fun us s1 hh => ?_) star1 plain
  obtain ⟨vs, H1, I1, r, l1, l2, ln, q⟩ := hh
  exact ⟨I1.kIn, run_err (ws := []) (zs := []) M Fk hr hb I1 r .nil l1 rfl ln q⟩
/-- C() -/
theorem pe_err0 (M : Mkr X.K C f) (Fk : FnOk X.prog X.w X.K X.mg X.base CX0 k f fd ps sp) (hr : Room (k + 1) X.A) (hg : Gl X x) (hm : X.mg x = some (.ref C)) (hb : KBn X.K fd ps 1 [] g gV)
    (noDbg : (x == ("__debug__" : Str)) = false := by decide) : PE X (.Call (.Name x p) [] [] pos) (tErr C 0 0 sp gV tNil tNil) := by
  refine ⟨fun pins s σ H Q I h => wpAny_Call_Name_kw (ld_glob I hg hm ?_ noDbg)⟩
  obtain ⟨l1, l2, ln, q⟩ := h
  exact PySem.W.callWith_K0 I.kIn M.cl.kC (run_err (us := []) (ws := []) (vs := []) (zs := []) M Fk hr hb I .nil .nil rfl rfl ln q)
/-- B.__init__(self, ..), B an own class that has the built-in __init__ -/
theorem pe_base {B : Addr} {mc : Value} {p1 p2 : Pos} {pl : Sem Bool} (hg : Gl X x) (hm : X.mg x = some (.ref B)) (r : ClX.CRead X.K B mc)
    (vB : PySem.W.findCls X.K (.ref B) mc "__init__" = some (.val (.builtin "ValueError.__init__"))) (ha : PA X (e :: es) t) (noDbg : (x == ("__debug__" : Str)) = false := by decide)
    (hc : eval (.Call (.Attribute (.Name x p1) "__init__" p2) (e :: es) [] pos) X.env = (do
      let ov ← eval (.Name x p1) X.env
      standAt p2.atName
      let (fn, self1) ← holding [ov] (getMethod ov "__init__" pl)
      callWith pos fn self1 (backTo pos (starEach (e :: es) X.env)) (backToKw pos (keywordEach [] X.env))) := by rfl)
    (star1 : starEach (e :: es) X.env = (false, eval e X.env) :: starEach es X.env := by rfl) (plain : (backTo pos (starEach es X.env)).any (·.1) = false := by rfl) :
    PE X (.Call (.Attribute (.Name x p1) "__init__" p2) (e :: es) [] pos) (tVeI X.K t) := by
  refine ⟨fun pins s σ H Q I h => PySem.W.methodCall_KW (ld_glob I hg hm ?_ noDbg) hc⟩
  refine PySem.W.method_cls I.kIn r.ga (PySem.W.cls_value I.kIn r.rd vB (by decide +kernel) ?_)
  show wpAny (model X.prog X.w) X.A (callWith pos (Value.builtin "ValueError.__init__") [] (backTo pos (starEach (e :: es) X.env)) []) _ _ _
  refine callWith_method1 (thn (ha.run pos pins _ σ H _ (I.tok _) h) fun us s1 hh => ?_) star1 plain
  obtain ⟨vs, H1, I1, r1, a, C, ws, ev, hl, T, ea, q⟩ := hh
  subst ev
  cases r1 with
  | @cons _ u0 _ ur ra rr =>
    obtain rfl : u0 = .ref a := ra
    refine oinit_ok T I1 ea ?_ fun s' J => ⟨.non, H1, J, rfl, q⟩
    rw [← Paired.length rr, sizeLine_eq]
    omega
end
end Ko

namespace PySem.KoX
open PySem PySem.W PySem.Calls PyProof.Rows PySem.Spec
section
variable {prog : Program} {w : World} {A : Around} {E : Value → Shared → Prop} {s : Shared} {K : Frag} {x D : Addr} {ox : Obj} {od : Option Obj}
theorem found_data {C : Addr} {name : Str} {a g : Value} (hc : (clsIn K C).isSome = true) (ha : findIn K (.ref C) name = some (some a)) (hg : specialIn K a "__get__" = some (some g))
    (ht : takesIn K a = some true) : findObj K C od name = some (.bind g a) := by
  obtain ⟨cd, e⟩ := Option.isSome_iff_exists.mp hc
  unfold findObj
  rw [e, Option.bind_some, ha, Option.bind_some]
  simp [hg, ht]
/-- e.__class__ of an error -/
theorem class_err {Q : Option Value → Shared → Prop} (T : L2.ExcC K D) (X : K.In s.heap) (I : InstAt s.heap x ox D od) (h : Q (some (.ref D)) { s with toks := s.toks + 1 }) :
    wpAny (model prog w) A (getAttr? (.ref x) "__class__") Q E s := by
  have hf : findObj K D od "__class__" = some (.bind (.builtin "getset_descriptor.__get__") (.builtin "object.__class__")) :=
    found_data (by obtain ⟨cd, hc, _⟩ := any_some T.hd; rw [hc]; rfl) T.ha T.hn T.ht
  obtain ⟨hp, g, d, t, os⟩ := s
  have T0 := I.type (M := model prog w)
  have T1 := looks_findIn (M := model prog w) X T.hg
  have T2 := looks_findIn (M := model prog w) X T.hk
  have T3 := looks_find (M := model prog w) X I hf
  have isE : Looks (model prog w) hp (isInstance (.ref x) (.type "BaseException")) true :=
    T0.andThen (looks_subIn X T.hs)
  have z0 : (false && onTheHeap (Value.builtin "BaseException.__getattribute__")) = false :=
    rfl
  have z2 : (Value.builtin "BaseException.__getattribute__" == Value.builtin "object.__getattribute__") = false :=
    by decide +kernel
  have z1 : (onTheHeap (Value.ref D) && Value.builtin "BaseException.__getattribute__" == Value.builtin "object.__getattribute__") = false := by
    rw [z2]
    rfl
  unfold getAttr?
  unfold getAttrBy? getAttrBy
  refine wpAny_bind (wpAny_mkText (wpAny_bind (wpAny_attempt (wpAny_holding (wpAny_bind (T0.at (wpAny_bind (T1.at ?_))))))))
  show wpAny (model prog w) _ (if (onTheHeap (Value.ref D) && Value.builtin "BaseException.__getattribute__" == Value.builtin "object.__getattribute__") = true then _ else _) _ _ _
  rw [z1, if_neg Bool.false_ne_true]
  unfold getAttrByItsOwn
  unfold hookBefore
  refine wpAny_bind ?_
  have onH : onTheHeap (Value.ref D) = true := rfl
  rw [if_pos onH]
  refine T2.at (wpAny_bind (wpAny_attempt (wpAny_holding ?_)))
  unfold callGetattribute
  rw [z0, if_neg Bool.false_ne_true]
  unfold boundAndCalled
  rw [PySem.F.excAttr_ValueError.ga.bind (Value.ref x)]
  refine wpAny_bind (wpAny_pure (show wpAny _ _ (call (.builtin "BaseException.__getattribute__") [.ref x, .str "__class__" t]) _ _ _ from
    wpAny_call (codeAny_call_builtin PySem.F.excAttr_ValueError.ga.plain PySem.F.entry_bexc_ga ?_)))
  refine @check_slot (model prog w) _ _ ⟨hp, g, d, t + 1, os⟩ "BaseException.__getattribute__" "BaseException" "__getattribute__" (.ref x) [.str "__class__" t] [] _ (by decide +kernel) (by decide +kernel)
    isE (PySem.F.args_bexc_ga (.ref x) (.str "__class__" t)) ?_
  delta Builtin.«object.__getattribute__»
  refine wpAny_bind (wpAny_of_eq (a := ((Value.ref x : Value), [Value.str "__class__" t])) (by
    first
      | rfl
      | (simp only [slotArgs]; rfl)) ?_)
  refine wpAny_bind (wpAny_pure (wpAny_bind (T0.at (wpAny_bind (T3.at ?_)))))
  show wpAny (model prog w) _ (holding [Value.builtin "object.__class__"] (call (.builtin "getset_descriptor.__get__") [.builtin "object.__class__", .ref x, .ref D]) >>= ret) _ _ _
  refine wpAny_bind (wpAny_holding (wpAny_call (class_get (s := ⟨hp, g, d, t + 1, os⟩) (ox := ox) (od := od) X I T.hm ?_)))
  refine wpAny_pure ?_
  show wpAny (model prog w) _ (handedOut (.ref D)) _ _ _
  rw [handedOut_of (rfl : handedIn (.ref D) = true)]
  first
    | (refine wpAny_pure (wpAny_pure ?_); exact h)
    | exact wpAny_pure h
    | (refine wpAny_pure (wpAny_bind (wpAny_pure (wpAny_pure ?_))); exact h)
theorem kit_err (T : L2.ExcC K D) : KitX K (.ref x) (.ref D) (fun h => InstAt h x ox D od) where
  ty := fun _ _ _ I => I.type
  it := fun _ _ X _ => by
    obtain ⟨cdD, hcD, _⟩ := any_some T.hd
    unfold clsIn at hcD
    split at hcD
    · rename_i c' d' cd' sl' ho
      intro A' Q' E' s' k q
      unfold isType loadHead
      refine wpAny_bind (wpAny_loadPart (k _ _ (X _ _ ho)) ?_)
      exact wpAny_pure q
    · cases hcD
  ne := fun hp tp _ _ _ _ X htp => by
    obtain ⟨cdD, hcD, _⟩ := any_some T.hd
    refine Bool.eq_false_iff.mpr fun same => ?_
    obtain rfl : D = tp := Value.ref.inj (beq_iff_eq.mp same)
    unfold clsIn at hcD
    split at hcD
    · rename_i c' d' cd' sl' ho
      have y := (X _ _ ho).symm.trans htp
      cases y
    · cases hcD
  ca := fun X I k => class_err T X I k
end
end PySem.KoX
namespace Ko
open PySem L2 PySem.Spec PyProof.Rows
section
variable {X : Cx} {pins : List (Addr × Obj)} {σ : Si} {H : Hp} {s : Shared}
/-- an error that is tracked, as the library reads it -/
theorem err_inst {a C : Addr} {fs : List (Str × V)} (hok : HOk X.prog X.w H s.heap) (e : Err H a C fs) : ∃ ox od, PySem.W.InstAt s.heap a ox C od := by
  rcases e with ⟨_, e⟩ | ⟨d, _, e, q⟩
  · obtain ⟨t1, ho⟩ := exo_at hok e
    exact ⟨_, none, ho, rfl, rfl, trivial⟩
  · obtain ⟨t1, ho⟩ := exo_at hok e
    obtain ⟨mA, ⟨od, es, ep, hd, _⟩, _⟩ := exd_at hok q
    exact ⟨_, some od, ho, rfl, rfl, hd⟩
end
/-- e.n of an error -/
def tEat (K : PySem.W.Frag) (n : Str) (te : TE) : TE := fun σ H Q => te σ H fun x H1 => ∃ (a C d : Addr) (fs : List (Str × V)) (v : V), x = .ref a ∧ H1 a = some (exo a C (some d)) ∧ H1 d = some (exd d fs) ∧
  XfC K C ∧ PySem.W.findIn K (.ref C) n = some none ∧ fs.lookup n = some v ∧ Q v H1
theorem pe_eat {X : Cx} {e : Expr} {te : TE} {pos : Pos} {n : Str} (he : PE X e te) (hb : attributeBase e n X.env (eval e X.env) = eval e X.env := by rfl) : PE X (.Attribute e n pos) (tEat X.K n te) := by
  refine ⟨fun pins s σ H Q I h => attr_of hb (thn (he.run pins s σ H _ I h) fun u s1 hh => ?_)⟩
  obtain ⟨x, H1, I1, rx, a, C, d, fs, v, ex, ea, ed, T, hno, l, q⟩ := hh
  subst ex
  obtain rfl : u = .ref a := rx
  obtain ⟨t1, ho⟩ := exo_at I1.hok ea
  obtain ⟨mA, hns, hr⟩ := exd_at I1.hok ed
  obtain ⟨od, hod, hl⟩ := lookIn_ns hns
  obtain ⟨y, hu, ru⟩ := RelO.some_of (v := v) (o := mA n) (by rw [← l]; exact hr n)
  have J : PySem.W.InstAt s1.heap a _ C (some od) := ⟨ho, rfl, rfl, hod⟩
  have own := PySem.W.findObj_own (od := od) T.hdC hno rfl (by rw [hl, hu])
  exact HandSPX.exc_get I1.kIn J T.ga T.gg T.exC own (handed_of ru) ⟨v, H1, I1.tok _, ru, q⟩
/-- isinstance(e, c) of an error -/
def rIsErr (K : PySem.W.Frag) : List V → Hp → VK → Prop := fun xs H Q => ∃ (a C : Addr) (fs : List (Str × V)) (c : V) (cv : Value) (b : Bool), xs = [.ref a, c] ∧ Err H a C fs ∧ ExcC K C ∧ ClsV c cv ∧ PySem.W.kitOne K (.ref C) cv = some b ∧ Q (.bl b) H
theorem call_isErr {X : Cx} : CallR X (.builtin "isinstance") (rIsErr X.K) := by
  intro pins s σ H args us Q I r h
  obtain ⟨a, C, fs, c, cv, b, rfl, e, T, k, kt, q⟩ := h
  obtain ⟨y1, y2, rfl, r1, r2⟩ := vals2 r
  cases (show y1 = .ref a from r1)
  have e2 := k.eq r2
  subst e2
  obtain ⟨ox, od, J⟩ := err_inst I.hok e
  exact PySem.W.kia_one (PySem.KoX.kit_err T) I.kIn J kt (fun z => nomatch z) fun tk => ⟨.bl b, H, I.tok tk, rfl, q⟩
/-- .. of an error that the suite holds: its object stands apart from what is tracked -/
def rIsPin (K : PySem.W.Frag) (p : Addr × Obj) : List V → Hp → VK → Prop := fun xs H Q => ∃ (C : Addr) (d : Option Addr) (c : V) (cv : Value) (b : Bool), xs = [.ref p.1, c] ∧ Zc (.ref C) d p.2 ∧ (∃ vs, p.2.data = .fields vs) ∧
  (∀ dx, d = some dx → ∃ fs, H dx = some (exd dx fs)) ∧ ExcC K C ∧ ClsV c cv ∧ PySem.W.kitOne K (.ref C) cv = some b ∧ Q (.bl b) H
theorem call_isPin {X : Cx} {p : Addr × Obj} (hp : p ∈ X.pn) : CallR X (.builtin "isinstance") (rIsPin X.K p) := by
  intro pins s σ H args us Q I r h
  obtain ⟨C, d, c, cv, b, rfl, hz, ⟨vs, hv⟩, hd, T, k, kt, q⟩ := h
  obtain ⟨y1, y2, rfl, r1, r2⟩ := vals2 r
  cases (show y1 = .ref p.1 from r1)
  have e2 := k.eq r2
  subst e2
  obtain ⟨hget, _⟩ := I.pin p (List.mem_append_left _ hp)
  have J : ∃ od, PySem.W.InstAt s.heap p.1 p.2 C od := by
    obtain ⟨pa, oc, od, oda, osl⟩ := p
    obtain ⟨h1, h2⟩ := hz
    dsimp only at h1 h2 hv hget
    subst h1 h2 hv
    cases od with
    | none => exact ⟨none, hget, rfl, rfl, trivial⟩
    | some dx =>
      obtain ⟨fs, ed⟩ := hd dx rfl
      obtain ⟨mA, ⟨o, es, ep, ho, _⟩, _⟩ := exd_at I.hok ed
      exact ⟨some o, hget, rfl, rfl, ho⟩
  obtain ⟨od, J⟩ := J
  exact PySem.W.kia_one (PySem.KoX.kit_err T) I.kIn J kt (fun z => nomatch z) fun tk => ⟨.bl b, H, I.tok tk, rfl, q⟩
/-- an error that was made here, raised -/
def tRs (H0 : Hp) (R : Value → Prop) (te : TE) : Si → Hp → XK → Prop := fun σ H Q => te σ H fun x H1 => ∃ (a C : Addr) (d : Option Addr), x = .ref a ∧ H1 a = some (exo a C d) ∧ Fr0 H0 a ∧ R (.ref C) ∧ Q (.ref C) d (delH H1 a)
theorem pmk_err {X : Cx} {e : Expr} {te : TE} (hx : X.ex = []) (he : PE X e te) : PMk X e (tRs X.H_0 (Raises X) te) := by
  intro pins s σ H Q I h
  refine wpAny_mono (he.run pins s σ H _ I h) (fun u s1 hu => ?_) fun _ _ z => z
  obtain ⟨v, H1, I1, r1, a, C, d, rfl, ha, h0, hr, q⟩ := hu
  cases r1
  obtain ⟨t1, ho⟩ := exo_at I1.hok ha
  obtain ⟨G, gs, ga, J⟩ := I1.untrack (show H1 a = some (.ext _) from ha) h0 hx
  exact ⟨a, _, _, { s1 with heap := G }, delH H1 a, .ref C, d, rfl, J, gs, ga, ho, ⟨rfl, rfl⟩, rfl, rfl, delH_same, rfl, I1.bare, hr, q⟩
end Ko

/-! A def called in an except suite: its promise may speak of the exception that is held -/
namespace Ko
open PySem L2 L2H PySem.Spec PyProof.Rows
abbrev Pin := Addr × Obj
structure FnP (P : Program) (w : World) (K : PySem.W.Frag) (mg : Str → Option Value) (base : Heap) (k : Nat) (f : Addr) (fd : FuncData) (ps : List Str) (sp : Pin → Sp) : Prop where
  len : ∀ p vs H Q E, sp p vs H Q E → vs.length = ps.length
  run : ∀ (A : Around) (outer : List Env) (s : Shared) (H : Hp) (args : Args) (us : List Value) (vs : List V) (Q : VK) (E : XK) (p : Pin), RoomH k A → PinOk outer H s p → Env0 P w K mg base A outer s H →
    BindsTo s fd args (ps.zip us) → Vals vs us → sp p vs H Q E → codeAny (model P w) A (.call (.ref f) args) (CR CX0 outer P w H s Q E) s
theorem fnP_of {P : Program} {w : World} {K : PySem.W.Frag} {mg : Str → Option Value} {base : Heap} {k : Nat} {f : Addr} {x qual : Str} {st : Stmt} {fd : FuncData} {N ps : List Str} {sp : Pin → Sp} (F : Fun K x qual st f fd)
    (S : FnScope N ps (defScope st)) (len : ∀ p vs H Q E, sp p vs H Q E → vs.length = ps.length)
    (body : ∀ (cdv : Value) (A : Around) (outer : List Env) (s : Shared) (H : Hp) (vs : List V) (Q : VK) (E : XK) (p : Pin), RoomH k (A.deeper (envOfC qual (defScope st) s.heap.objs.size f cdv)) → sp p vs H Q E →
      ∃ t, PSs (cxH CX0 P w K mg base N qual (defScope st) f cdv A outer s H E p).nox (defBody st) t ∧ t { nx := fun _ H' => Q .non H', rt := Q } (L2.start N vs) H) : FnP P w K mg base (k + 1) f fd ps sp := by
  obtain ⟨oc, od, kV, doc, pm, an, cdv, ct, osl, rfl, lk, hcode⟩ := F.ex
  refine ⟨len, fun A outer s H args us vs Q E p room pin e0 hb r h => ?_⟩
  have hl := len _ _ _ _ _ h
  have kin : K.In s.heap := e0.mod.kin.keeps fun b o e => (e0.bs b o e).1
  have nolim : s.heap.NoLimit := e0.mod.nolimit.keeps fun b o e => (e0.bs b o e).1
  have kinds : ∀ y ∈ ps.zip us, (defScope st).names.lookup y.1 = some .local ∨ ((defScope st).names.lookup y.1 = some .cell ∧ ((cellsFrom (s.heap.objs.size + 1) (defScope st).names []).lookup y.1).isSome = true) := by
    rintro ⟨n, v⟩ hy
    rcases S.par n (List.of_mem_zip hy).1 with loc | cel
    · exact .inl loc
    · exact .inr ⟨cel, PySem.W.cellsFrom_some _ _ _ (.inl cel)⟩
  refine codeAny_call_function room.depth (kin _ _ lk) rfl S.co S.gen rfl (PySem.W.codeRec_of kin hcode) (hb _ _ _ _ (wpAny_newFunctionEnv_cells S.kind kinds fun env he s1 x => ?_))
  subst he
  refine ⟨nolim.keeps x.toInCall.keep, codeAny_func ?_⟩
  obtain ⟨t, ht, q⟩ := body cdv A outer s H vs Q E p (room.deeper _) h
  have I : Inv (cxH CX0 P w K mg base N qual (defScope st) f cdv A outer s H E p) [] (L2.start N vs) H s1 := inv_startH S pin e0 hl r x
  refine wpAny_mono (ht.nox.run [] s1 (L2.start N vs) H _ I q) (fun fl s' z => ?_) fun e s' z => z
  have fin : ∀ {σ' : Si} {H' : Hp} {v : V} {u : Value}, Inv (cxH CX0 P w K mg base N qual (defScope st) f cdv A outer s H E p) [] σ' H' s' → RelV v u → Q v H' → CE outer P w H s Q u s' := by
    intro σ' H' v u J rv y
    exact ⟨v, H', J.os, J.bare, J.base, J.hok, rv, y⟩
  cases fl with
  | ret u =>
    obtain ⟨v, σ', H', J, rv, y⟩ := z
    exact fin J rv y
  | next =>
    obtain ⟨σ', H', J, y⟩ := z
    exact fin (v := V.non) (u := Value.none) J rfl y
  | brk =>
    obtain ⟨_, _, _, y⟩ := z
    exact y.elim
  | cont =>
    obtain ⟨_, _, _, y⟩ := z
    exact y.elim
section
variable {X : Cx} {k : Nat} {f : Addr} {fd : FuncData} {ps : List Str} {sp : Pin → Sp} {x : Str} {q pos : Pos} {e : Expr} {es : List Expr} {t : TA} {p : Pin}
theorem pe_callP (Fp : FnP X.prog X.w X.K X.mg X.base k f fd ps sp) (room : RoomH k X.A) (hp : p ∈ X.pn) (hg : Gl X x) (hm : X.mg x = some (.ref f)) (hk : PySem.W.keepIn X.K (.ref f) = true) (hb : Binds X.K fd ps [])
    (ha : PA X (e :: es) t) (noDbg : (x == ("__debug__" : Str)) = false := by decide) (star1 : starEach (e :: es) X.env = (false, eval e X.env) :: starEach es X.env := by rfl) (plain : (backTo pos (starEach es X.env)).any (·.1) = false := by rfl) :
    PE X (.Call (.Name x q) (e :: es) [] pos) (tCall (sp p) [] E0 t) := by
  refine ⟨fun pins s σ H Q I h => wpAny_Call_Name_kw (ld_glob I hg hm ?_ noDbg)⟩
  refine PySem.W.callWith_K (h₀ := X.base) I.ok.mod.kin hk (thn (ha.run pos pins s σ H _ I h) fun us s1 hh => ?_) star1 plain
  obtain ⟨vs, H1, I1, r, y⟩ := hh
  refine ⟨I1.kIn, ?_⟩
  have y' : sp p vs H1 Q E0 := by
    rw [← List.append_nil vs]
    exact y
  have hl : us.length = ps.length := by
    rw [← r.length]
    exact Fp.len _ _ _ _ _ y'
  have b := hb s1 us I1.kIn (by rw [List.append_nil]; exact hl)
  rw [List.append_nil] at b
  have P1 := I1.pin p (List.mem_append_left _ hp)
  have pin : PinOk X.stack H1 s1 p := ⟨P1.1, P1.2.1, fun hm => (List.mem_cons.1 (I1.stkSub p.1 hm)).elim P1.2.2.1 P1.2.2.2.1, P1.2.2.2.2⟩
  refine wpAny_call (codeAny_mono (Fp.run X.A X.stack s1 H1 ⟨us, []⟩ us vs Q E0 p room pin I1.env0 b r y') fun r' s' z => ?_)
  cases r' with
  | error er => exact False.elim z
  | ok fl =>
    cases fl with
    | ret u => exact I1.after z
    | next => exact False.elim z
    | brk => exact False.elim z
    | cont => exact False.elim z
end
end Ko

/-! The text by places, what the top leaves, the bag of the draws -/
namespace Ko
open PySem L2 PySem.Spec PyProof.Rows
/-- b holds a bag: the cells at c, a place in them, the rest of a great one, a seed, a count -/
def Bag (N : Nat) (H : Hp) (b c : Addr) : Prop := c ≠ b ∧ ∃ (ns : List Int) (at_ gr sd ct : Int), H b = some (.lst [.ref c, .int at_, .int gr, .int sd, .int ct]) ∧ H c = some (.lst (ns.map V.int)) ∧
  0 ≤ at_ ∧ 0 ≤ gr ∧ 0 ≤ sd ∧ sd < 18446744073709551557 ∧ 0 ≤ ct ∧ ct + N ≤ 1000000000000000000
/-- all but b stands, b is a bag still -/
def Kp (N : Nat) (b c : Addr) (H H' : Hp) : Prop := (∀ a o, a ≠ b → H a = some o → H' a = some o) ∧ Bag N H' b c
theorem Kp.bag {N : Nat} {b c : Addr} {H H' : Hp} (k : Kp N b c H H') : Bag N H' b c := k.2
theorem Kp.at {N : Nat} {b c a : Addr} {H H' : Hp} {o : HO} (k : Kp N b c H H') (h : a ≠ b) (e : H a = some o) : H' a = some o := k.1 a o h e
theorem Kp.trans {N N1 : Nat} {b c : Addr} {H H1 H2 : Hp} (k : Kp N1 b c H H1) (k2 : Kp N b c H1 H2) : Kp N b c H H2 := ⟨fun a o h e => k2.1 a o h (k.1 a o h e), k2.2⟩
theorem Kp.refl {N : Nat} {b c : Addr} {H : Hp} (B : Bag N H b c) : Kp N b c H H := ⟨fun _ _ _ e => e, B⟩
theorem Bag.has {N : Nat} {H : Hp} {b c : Addr} (B : Bag N H b c) : (∃ o, H b = some o) ∧ ∃ o, H c = some o := by
  obtain ⟨hc, ns, at_, gr, sd, ct, h, h2, _⟩ := B
  exact ⟨⟨_, h⟩, _, h2⟩
theorem Bag.free {N : Nat} {H : Hp} {b c p : Addr} (B : Bag N H b c) (n : H p = none) : p ≠ b ∧ p ≠ c := by
  obtain ⟨⟨o, h⟩, u, h2⟩ := B.has
  exact ⟨(ne_of_none h n).symm, (ne_of_none h2 n).symm⟩
/-- another object beside the bag is written -/
theorem Bag.put {N : Nat} {H : Hp} {b c p : Addr} {o : HO} (B : Bag N H b c) (hb : p ≠ b) (hc : p ≠ c) : Bag N (upd H p o) b c := by
  obtain ⟨h, ns, at_, gr, sd, ct, h1, h2, r⟩ := B
  exact ⟨h, ns, at_, gr, sd, ct, by rw [upd_ne hb.symm]; exact h1, by rw [upd_ne hc.symm]; exact h2, r⟩
theorem Kp.put {N : Nat} {b c p : Addr} {H H' : Hp} {o : HO} (k : Kp N b c H H') (n : H p = none) (hb : p ≠ b) (hc : p ≠ c) : Kp N b c H (upd H' p o) :=
  ⟨fun a u h e => by rw [upd_ne (ne_of_none e n)]; exact k.1 a u h e, k.2.put hb hc⟩
/-- something new beside the bag -/
theorem Kp.new {N : Nat} {b c p : Addr} {H H' : Hp} {o : HO} (k : Kp N b c H H') (n : H' p = none) : Kp N b c H (upd H' p o) := by
  obtain ⟨hb, hc⟩ := k.2.free n
  refine ⟨fun a u h e => ?_, k.2.put hb hc⟩
  have q := k.1 a u h e
  rw [upd_ne (ne_of_none q n)]
  exact q
theorem Bag.nePair {N : Nat} {H : Hp} {b c a : Addr} {xs : List V} (B : Bag N H b c) (e : H a = some (.lst xs)) (h : xs.length ≠ 5) : a ≠ b := by
  obtain ⟨_, ns, at_, gr, sd, ct, q, _⟩ := B
  intro z
  rw [z, q] at e
  cases e
  exact h rfl
theorem Bag.neTup {N : Nat} {H : Hp} {b c a : Addr} {xs : List V} (B : Bag N H b c) (e : H a = some (.tup xs)) : a ≠ b := by
  obtain ⟨_, ns, at_, gr, sd, ct, q, _⟩ := B
  intro z
  rw [z, q] at e
  cases e
theorem Bag.same {N : Nat} {H H' : Hp} {b c : Addr} (B : Bag N H b c) (s : Same H H') : Bag N H' b c := by
  obtain ⟨h, ns, at_, gr, sd, ct, h1, h2, r⟩ := B
  exact ⟨h, ns, at_, gr, sd, ct, s _ _ h1, s _ _ h2, r⟩
theorem Bag.le {N M : Nat} {H : Hp} {b c : Addr} (B : Bag N H b c) (h : M ≤ N) : Bag M H b c := by
  obtain ⟨hc, ns, at_, gr, sd, ct, h1, h2, a0, g0, s0, s1, c0, c1⟩ := B
  exact ⟨hc, ns, at_, gr, sd, ct, h1, h2, a0, g0, s0, s1, c0, by omega⟩
theorem Same.new {H H' : Hp} {p : Addr} {o : HO} (s : Same H H') (n : H' p = none) : Same H (upd H' p o) := fun a u e => by
  have q := s a u e
  rw [upd_ne (ne_of_none q n)]
  exact q
theorem Kp.same {N : Nat} {b c : Addr} {H H1 H2 : Hp} (k : Kp N b c H H1) (s : Same H1 H2) : Kp N b c H H2 := ⟨fun a o h e => s a o (k.1 a o h e), k.2.same s⟩
/-- the built-in names that the texts use -/
def bltNames : List Str := ["len", "int", "str", "list", "tuple", "bool", "range", "zip", "all", "any", "isinstance", "ValueError", "abs", "max", "min", "sorted", "dict", "divmod", "enumerate", "sum", "set", "reversed"]
def Blt (mg : Str → Option Value) : Prop := ∀ x ∈ bltNames, mg x = none
theorem Blt.n_len {mg : Str → Option Value} (T : Blt mg) : mg "len" = none := T _ (by decide +kernel)
theorem Blt.n_int {mg : Str → Option Value} (T : Blt mg) : mg "int" = none := T _ (by decide +kernel)
theorem Blt.n_str {mg : Str → Option Value} (T : Blt mg) : mg "str" = none := T _ (by decide +kernel)
theorem Blt.n_list {mg : Str → Option Value} (T : Blt mg) : mg "list" = none := T _ (by decide +kernel)
theorem Blt.n_tuple {mg : Str → Option Value} (T : Blt mg) : mg "tuple" = none := T _ (by decide +kernel)
theorem Blt.n_bool {mg : Str → Option Value} (T : Blt mg) : mg "bool" = none := T _ (by decide +kernel)
theorem Blt.n_range {mg : Str → Option Value} (T : Blt mg) : mg "range" = none := T _ (by decide +kernel)
theorem Blt.n_zip {mg : Str → Option Value} (T : Blt mg) : mg "zip" = none := T _ (by decide +kernel)
theorem Blt.n_all {mg : Str → Option Value} (T : Blt mg) : mg "all" = none := T _ (by decide +kernel)
theorem Blt.n_any {mg : Str → Option Value} (T : Blt mg) : mg "any" = none := T _ (by decide +kernel)
theorem Blt.n_isinstance {mg : Str → Option Value} (T : Blt mg) : mg "isinstance" = none := T _ (by decide +kernel)
theorem Blt.n_ValueError {mg : Str → Option Value} (T : Blt mg) : mg "ValueError" = none := T _ (by decide +kernel)
theorem Blt.n_abs {mg : Str → Option Value} (T : Blt mg) : mg "abs" = none := T _ (by decide +kernel)
theorem Blt.n_max {mg : Str → Option Value} (T : Blt mg) : mg "max" = none := T _ (by decide +kernel)
theorem Blt.n_min {mg : Str → Option Value} (T : Blt mg) : mg "min" = none := T _ (by decide +kernel)
theorem Blt.n_sorted {mg : Str → Option Value} (T : Blt mg) : mg "sorted" = none := T _ (by decide +kernel)
theorem Blt.n_dict {mg : Str → Option Value} (T : Blt mg) : mg "dict" = none := T _ (by decide +kernel)
theorem Blt.n_divmod {mg : Str → Option Value} (T : Blt mg) : mg "divmod" = none := T _ (by decide +kernel)
theorem Blt.n_enumerate {mg : Str → Option Value} (T : Blt mg) : mg "enumerate" = none := T _ (by decide +kernel)
theorem Blt.n_sum {mg : Str → Option Value} (T : Blt mg) : mg "sum" = none := T _ (by decide +kernel)
theorem Blt.n_set {mg : Str → Option Value} (T : Blt mg) : mg "set" = none := T _ (by decide +kernel)
theorem Blt.n_reversed {mg : Str → Option Value} (T : Blt mg) : mg "reversed" = none := T _ (by decide +kernel)
/-- a def of the text at f, its promise at a level -/
structure Df (P : Program) (w : World) (K : PySem.W.Frag) (mg : Str → Option Value) (base : Heap) (k : Nat) (x : Str) (f : Addr) (ps : List Str) (sp : Sp) : Prop where
  g : mg x = some (.ref f)
  kp : PySem.W.keepIn K (Value.ref f) = true
  ok : ∃ fd, FnOk P w K mg base CX0 k f fd ps sp ∧ Binds K fd ps []
end Ko

namespace Ko
open PySem L2 PySem.Spec PyProof.Rows

open PySem.HandSPX (veTail refsVE)
/-- behind the error's __init__: the error with its fields, all else as it was -/
def Made (H H' : Hp) (a C : Addr) (fs : List (Str × V)) : Prop := Err H' a C fs ∧ ∀ p o, p ≠ a → H p = some o → H' p = some o
def spI (C : Addr) (ps : List Str) : Sp := fun vs H Q _ => ∃ (a : Addr) (args : List V), vs = .ref a :: args ∧ args.length = ps.length ∧ H a = some (exo a C none) ∧ ∀ H', Made H H' a C (ps.zip args).reverse → Q .non H'
/-- what the text says of the base -/
structure RTxt (K : PySem.W.Frag) (mg : Str → Option Value) (R : Addr) : Prop where
  g : mg "Refused" = some (.ref R)
  rd : ClX.CRead K R (.type "type")
  vB : PySem.W.findCls K (.ref R) (.type "type") "__init__" = some (.val (.builtin "ValueError.__init__"))
  cR : (PySem.W.clsIn K R).isSome = true
  tR : PySem.W.typeIn K (.ref R) = some (.type "type")
  hn : PySem.W.specialIn K (Value.builtin "object.__class__") "__get__" = some (some (.builtin "getset_descriptor.__get__"))
  ht : PySem.W.takesIn K (Value.builtin "object.__class__") = some true
  sB : PySem.W.subIn K (.ref R) (.type "BaseException") = some true
  dR : PySem.W.hasDictIn K R = true
/-- the class of an error, x by name, at C, its fields ps -/
structure Ecl (K : PySem.W.Frag) (mg : Str → Option Value) (R : Addr) (x : Str) (C : Addr) (ps : List Str) : Prop where
  g : mg x = some (.ref C)
  look : ∃ nm q N bs sn sub ab col dd k0 k1 k2 k3 k5, K.lookup C = some (excClassObj nm q C N bs (.ref R :: veTail) true sn sub ab col dd k0 k1 k2 k3 k5 "ValueError.__new__")
  sa : PySem.W.findIn K (Value.ref C) "__setattr__" = some (some (.builtin "object.__setattr__"))
  ga : PySem.W.findIn K (Value.ref C) "__getattribute__" = some (some (.builtin "BaseException.__getattribute__"))
  gg : PySem.W.findIn K (Value.ref C) "__getattr__" = some none
  gc : PySem.W.findIn K (.ref C) "__class__" = some (some (.builtin "object.__class__"))
  no : ∀ p ∈ ps, PySem.W.findIn K (.ref C) p = some none
  kp : PySem.W.keepIn K (Value.ref C) = true
section
variable {K : PySem.W.Frag} {mg : Str → Option Value} {R C : Addr} {x : Str} {ps : List Str}
theorem Ecl.cls (E : Ecl K mg R x C ps) : ∃ cd : ClassData, PySem.W.clsIn K C = some cd ∧ cd.mro = .ref C :: .ref R :: veTail ∧ cd.hasDict = true ∧ PySem.W.typeIn K (.ref C) = some (.type "type") := by
  obtain ⟨nm, q, N, bs, sn, sub, ab, col, dd, k0, k1, k2, k3, k5, h⟩ := E.look
  refine ⟨{ name := nm, bases := bs, mro := .ref C :: .ref R :: veTail, ns := N, qualname := q, hasDict := true, slotNames := sn, subclasses := sub, abstract := ab, collection := col, hasDel := false }, ?_, rfl, rfl, ?_⟩
  · unfold PySem.W.clsIn
    rw [h]
  · unfold PySem.W.typeIn
    simp only [h]
    first
      | rfl
      | simp [excClassObj]
theorem Ecl.oex (E : Ecl K mg R x C ps) : OexC K C := by
  obtain ⟨cd, h1, h2, h3, h4⟩ := E.cls
  obtain ⟨nm, q, N, bs, sn, sub, ab, col, dd, k0, k1, k2, k3, k5, h⟩ := E.look
  refine ⟨⟨nm, q, N, bs, _, sn, sub, ab, col, dd, k0, k1, k2, k3, k5, h, by rfl⟩, E.sa, ?_, h4, E.kp⟩
  show PySem.W.mroIn K C _ = _
  unfold PySem.W.mroIn
  rw [h1, Option.bind_some, h2]
  rfl
theorem Ecl.xf (E : Ecl K mg R x C ps) : XfC K C := by
  obtain ⟨cd, h1, h2, h3, h4⟩ := E.cls
  refine ⟨E.ga, E.gg, E.oex.exC, ?_⟩
  unfold PySem.W.hasDictIn
  rw [h1]
  simp [h3]
theorem Ecl.xc (E : Ecl K mg R x C ps) (T : RTxt K mg R) : ExcC K C := by
  obtain ⟨cd, h1, h2, h3, h4⟩ := E.cls
  refine ⟨E.ga, E.gg, E.oex.exC, E.xf.hdC, E.gc, T.hn, T.ht, ?_⟩
  unfold PySem.W.mroIn
  rw [h1, Option.bind_some, h2]
  rfl
/-- of the same class -/
theorem Ecl.kit_same (C : Addr) : PySem.W.kitOne K (.ref C) (.ref C) = some true := by
  unfold PySem.W.kitOne
  rw [if_pos (by simp)]
/-- of another class -/
theorem Ecl.kit_other {x' : Str} {C' : Addr} {ps' : List Str} (E : Ecl K mg R x C ps) (E' : Ecl K mg R x' C' ps') (h : C ≠ C') (hR : C' ≠ R) : PySem.W.kitOne K (.ref C) (.ref C') = some false := by
  obtain ⟨cd, h1, h2, h3, h4⟩ := E.cls
  obtain ⟨cd', g1, g2, g3, g4⟩ := E'.cls
  unfold PySem.W.kitOne
  rw [if_neg (by simp [h])]
  show (if ((PySem.W.clsIn K C').isSome && PySem.W.typeIn K (.ref C') == some (.type "type")) = true then PySem.W.subIn K (.ref C) (.ref C') else none) = _
  rw [if_pos (by rw [g1, g4]; rfl)]
  show PySem.W.mroIn K C _ = _
  unfold PySem.W.mroIn
  rw [h1, Option.bind_some, h2]
  have e1 : (Value.ref C == Value.ref C') = false := by simp [h]
  have e2 : (Value.ref R == Value.ref C') = false := by simp [Ne.symm hR]
  simp [h, Ne.symm h, hR, Ne.symm hR]
  try decide
theorem Ecl.kit_base (E : Ecl K mg R x C ps) (T : RTxt K mg R) (hR : C ≠ R) : PySem.W.kitOne K (.ref C) (.ref R) = some true := by
  obtain ⟨cd, h1, h2, h3, h4⟩ := E.cls
  unfold PySem.W.kitOne
  rw [if_neg (by simp [hR])]
  show (if ((PySem.W.clsIn K R).isSome && PySem.W.typeIn K (.ref R) == some (.type "type")) = true then PySem.W.subIn K (.ref C) (.ref R) else none) = _
  rw [if_pos (by rw [T.cR, T.tR]; rfl)]
  show PySem.W.mroIn K C _ = _
  unfold PySem.W.mroIn
  rw [h1, Option.bind_some, h2]
  simp
theorem Ecl.kit_VE (E : Ecl K mg R x C ps) : PySem.W.kitOne K (.ref C) (.type "ValueError") = some true := by
  obtain ⟨cd, h1, h2, h3, h4⟩ := E.cls
  unfold PySem.W.kitOne
  rw [if_neg (show ¬ (Value.ref C == Value.type "ValueError") = true from Bool.false_ne_true)]
  show (if PySem.W.kitMeta "ValueError" = true then PySem.W.subIn K (.ref C) (.type "ValueError") else none) = _
  rw [if_pos (by decide +kernel)]
  show PySem.W.mroIn K C _ = _
  unfold PySem.W.mroIn
  rw [h1, Option.bind_some, h2]
  rfl
end

/-- how such a call binds: by position, by names -/
def Bnd (K : PySem.W.Frag) (fd : FuncData) (ps : List Str) : Prop :=
  KBn K fd ("self" :: ps) (ps.length + 1) [] (fun us ws => us ++ ws) (fun us ws => us ++ ws) ∧ match ps with
    | [p] => KBn K fd ["self", p] 1 [p] (fun us ws => us ++ ws) (fun us ws => us ++ ws)
    | [p, r] => KBn K fd ["self", p, r] 2 [r] (fun us ws => us ++ ws) (fun us ws => us ++ ws) ∧ KBn K fd ["self", p, r] 1 [r, p] (fun us ws => us ++ ws.reverse) (fun us ws => us ++ ws.reverse)
    | _ => True
theorem kb {K : PySem.W.Frag} {x qual : Str} {st : Stmt} {f : Addr} {fd : FuncData} {ps : List Str} (F : Fun K x qual st f fd) (n : Nat) (ks : List Str) (g : {α : Type} → List α → List α → List α)
    (hg : ∀ (vs zs : List V) (us ws : List Value), Vals vs us → Vals zs ws → Vals (g vs zs) (g us ws))
    (h : ∀ (kV doc pm : Value) (an : Option Addr) (cdv ct : Value) (us ws : List Value), us.length = n → ws.length = ks.length →
      bindArgs (PySem.W.fnOf x qual (defArgs st) (defBody st) (defScope st) .none kV doc pm an cdv ct) ⟨us, ks.zip ws⟩ = pure (ps.zip (g us ws))) : KBn K fd ps n ks (fun us ws => g us ws) (fun us ws => g us ws) := by
  obtain ⟨oc, od, kV, doc, pm, an, cdv, ct, osl, rfl, lk, hcode⟩ := F.ex
  exact ⟨fun s us ws X l1 l2 => .of_eq (h kV doc pm an cdv ct us ws l1 l2), fun r1 r2 => hg _ _ _ _ r1 r2⟩
abbrev gApp : {α : Type} → List α → List α → List α := fun us ws => us ++ ws
abbrev gRev : {α : Type} → List α → List α → List α := fun us ws => us ++ ws.reverse
end Ko

namespace Ko
open PySem L2 PySem.Spec PyProof.Rows
def top (i : Nat) : Stmt := PySem.Challenge.pw_mostlaid_k24_lofts_told.main.body.getD i (.Pass ⟨0, 0, 0, 0⟩)
abbrev s_folded : Stmt := top 6
theorem sc_folded : FnScope ["values", "both", "left", "last", "k"] ["values", "both"] (defScope s_folded) := ⟨rfl, rfl, rfl, by decide +kernel, rfl, by decide +kernel, by decide +kernel⟩
abbrev s_is_whole : Stmt := top 8
theorem sc_is_whole : FnScope ["value"] ["value"] (defScope s_is_whole) := ⟨rfl, rfl, rfl, by decide +kernel, rfl, by decide +kernel, by decide +kernel⟩
abbrev s_is_fraction : Stmt := top 9
theorem sc_is_fraction : FnScope ["value"] ["value"] (defScope s_is_fraction) := ⟨rfl, rfl, rfl, by decide +kernel, rfl, by decide +kernel, by decide +kernel⟩
abbrev s_is_number : Stmt := top 10
theorem sc_is_number : FnScope ["value"] ["value"] (defScope s_is_number) := ⟨rfl, rfl, rfl, by decide +kernel, rfl, by decide +kernel, by decide +kernel⟩
abbrev s_reduced : Stmt := top 11
theorem sc_reduced : FnScope ["n", "d", "shared"] ["n", "d"] (defScope s_reduced) := ⟨rfl, rfl, rfl, by decide +kernel, rfl, by decide +kernel, by decide +kernel⟩
abbrev s_pair : Stmt := top 12
theorem sc_pair : FnScope ["a"] ["a"] (defScope s_pair) := ⟨rfl, rfl, rfl, by decide +kernel, rfl, by decide +kernel, by decide +kernel⟩
abbrev s_plus : Stmt := top 13
theorem sc_plus : FnScope ["a", "b"] ["a", "b"] (defScope s_plus) := ⟨rfl, rfl, rfl, by decide +kernel, rfl, by decide +kernel, by decide +kernel⟩
abbrev s_minus : Stmt := top 14
theorem sc_minus : FnScope ["a", "b"] ["a", "b"] (defScope s_minus) := ⟨rfl, rfl, rfl, by decide +kernel, rfl, by decide +kernel, by decide +kernel⟩
abbrev s_times : Stmt := top 15
theorem sc_times : FnScope ["a", "b"] ["a", "b"] (defScope s_times) := ⟨rfl, rfl, rfl, by decide +kernel, rfl, by decide +kernel, by decide +kernel⟩
abbrev s_below : Stmt := top 16
theorem sc_below : FnScope ["a", "b"] ["a", "b"] (defScope s_below) := ⟨rfl, rfl, rfl, by decide +kernel, rfl, by decide +kernel, by decide +kernel⟩
abbrev s_compare : Stmt := top 17
theorem sc_compare : FnScope ["a", "b"] ["a", "b"] (defScope s_compare) := ⟨rfl, rfl, rfl, by decide +kernel, rfl, by decide +kernel, by decide +kernel⟩
abbrev s_is_corner : Stmt := top 20
theorem sc_is_corner : FnScope ["value", "item"] ["value"] (defScope s_is_corner) := ⟨rfl, rfl, rfl, by decide +kernel, rfl, by decide +kernel, by decide +kernel⟩
abbrev s_is_face : Stmt := top 21
theorem sc_is_face : FnScope ["value", "many", "item"] ["value", "many"] (defScope s_is_face) := ⟨rfl, rfl, rfl, by decide +kernel, rfl, by decide +kernel, by decide +kernel⟩
abbrev s_face_steps : Stmt := top 22
theorem sc_face_steps : FnScope ["face", "a", "b", "c", "step"] ["face"] (defScope s_face_steps) := ⟨rfl, rfl, rfl, by decide +kernel, rfl, by decide +kernel, by decide +kernel⟩
abbrev s_edge_of : Stmt := top 23
theorem sc_edge_of : FnScope ["step"] ["step"] (defScope s_edge_of) := ⟨rfl, rfl, rfl, by decide +kernel, rfl, by decide +kernel, by decide +kernel⟩
abbrev s_surpluses : Stmt := top 24
theorem sc_surpluses : FnScope ["faces", "found", "face", "step", "edge"] ["faces"] (defScope s_surpluses) := ⟨rfl, rfl, rfl, by decide +kernel, rfl, by decide +kernel, by decide +kernel⟩
abbrev s_open_edges : Stmt := top 25
theorem sc_open_edges : FnScope ["net"] ["net"] (defScope s_open_edges) := ⟨rfl, rfl, rfl, by decide +kernel, rfl, by decide +kernel, by decide +kernel⟩
abbrev s_is_closed : Stmt := top 26
theorem sc_is_closed : FnScope ["net"] ["net"] (defScope s_is_closed) := ⟨rfl, rfl, rfl, by decide +kernel, rfl, by decide +kernel, by decide +kernel⟩
abbrev s_determinant : Stmt := top 27
theorem sc_determinant : FnScope ["p", "q", "r", "first", "second", "third"] ["p", "q", "r"] (defScope s_determinant) := ⟨rfl, rfl, rfl, by decide +kernel, rfl, by decide +kernel, by decide +kernel⟩
abbrev s_volume : Stmt := top 28
theorem sc_volume : FnScope ["net", "shares", "a", "b", "c"] ["net"] (defScope s_volume) := ⟨rfl, rfl, rfl, by decide +kernel, rfl, by decide +kernel, by decide +kernel⟩
abbrev s_loft : Stmt := top 30
theorem sc_loft : FnScope ["lower", "z0", "upper", "z1", "many", "corners", "x", "y", "faces", "i", "j"] ["lower", "z0", "upper", "z1"] (defScope s_loft) := ⟨rfl, rfl, rfl, by decide +kernel, rfl, by decide +kernel, by decide +kernel⟩
abbrev s_l_bag : Stmt := top 32
theorem sc_l_bag : FnScope ["_law_script", "_law_mixed", "_law_cell"] ["_law_script"] (defScope s_l_bag) := ⟨rfl, rfl, rfl, by decide +kernel, rfl, by decide +kernel, by decide +kernel⟩
abbrev s_l_draw : Stmt := top 33
theorem sc_l_draw : FnScope ["_law_bag_here", "_law_many_y", "_law_cell", "_law_digit"] ["_law_bag_here", "_law_many_y"] (defScope s_l_draw) := ⟨rfl, rfl, rfl, by decide +kernel, rfl, by decide +kernel, by decide +kernel⟩
abbrev s_l_of : Stmt := top 34
theorem sc_l_of : FnScope ["_law_bag_here", "_law_things"] ["_law_bag_here", "_law_things"] (defScope s_l_of) := ⟨rfl, rfl, rfl, by decide +kernel, rfl, by decide +kernel, by decide +kernel⟩
abbrev s_l_same : Stmt := top 35
theorem sc_l_same : FnScope ["_law_found", "_law_due", "_law_part_a", "_law_part_b"] ["_law_found", "_law_due"] (defScope s_l_same) := ⟨rfl, rfl, rfl, by decide +kernel, rfl, by decide +kernel, by decide +kernel⟩
abbrev s_l_low : Stmt := top 36
theorem sc_l_low : FnScope ["_law_num", "_law_den", "_law_high", "_law_rest"] ["_law_num", "_law_den"] (defScope s_l_low) := ⟨rfl, rfl, rfl, by decide +kernel, rfl, by decide +kernel, by decide +kernel⟩
abbrev s_l_add : Stmt := top 37
theorem sc_l_add : FnScope ["_law_p", "_law_q"] ["_law_p", "_law_q"] (defScope s_l_add) := ⟨rfl, rfl, rfl, by decide +kernel, rfl, by decide +kernel, by decide +kernel⟩
abbrev s_l_sub : Stmt := top 38
theorem sc_l_sub : FnScope ["_law_p", "_law_q"] ["_law_p", "_law_q"] (defScope s_l_sub) := ⟨rfl, rfl, rfl, by decide +kernel, rfl, by decide +kernel, by decide +kernel⟩
abbrev s_l_mul : Stmt := top 39
theorem sc_l_mul : FnScope ["_law_p", "_law_q"] ["_law_p", "_law_q"] (defScope s_l_mul) := ⟨rfl, rfl, rfl, by decide +kernel, rfl, by decide +kernel, by decide +kernel⟩
abbrev s_l_lt : Stmt := top 40
theorem sc_l_lt : FnScope ["_law_p", "_law_q"] ["_law_p", "_law_q"] (defScope s_l_lt) := ⟨rfl, rfl, rfl, by decide +kernel, rfl, by decide +kernel, by decide +kernel⟩
abbrev s_l_hand : Stmt := top 41
theorem sc_l_hand : FnScope ["_law_bag_here", "_law_p"] ["_law_bag_here", "_law_p"] (defScope s_l_hand) := ⟨rfl, rfl, rfl, by decide +kernel, rfl, by decide +kernel, by decide +kernel⟩
abbrev s_l_handed : Stmt := top 42
theorem sc_l_handed : FnScope ["_law_bag_here", "_law_spots_here", "_law_p", "_law_spot"] ["_law_bag_here", "_law_spots_here"] (defScope s_l_handed) := ⟨rfl, rfl, rfl, by decide +kernel, rfl, by decide +kernel, by decide +kernel⟩
abbrev s_l_number : Stmt := top 43
theorem sc_l_number : FnScope ["_law_bag_here", "_law_way"] ["_law_bag_here"] (defScope s_l_number) := ⟨rfl, rfl, rfl, by decide +kernel, rfl, by decide +kernel, by decide +kernel⟩
abbrev s_l_ring : Stmt := top 44
theorem sc_l_ring : FnScope ["_law_bag_here", "_law_way", "_law_x", "_law_y", "_law_wide", "_law_tall", "_law_spots_here", "_law_top", "_law_den", "_law_at", "_law_spot"] ["_law_bag_here"] (defScope s_l_ring) := ⟨rfl, rfl, rfl, by decide +kernel, rfl, by decide +kernel, by decide +kernel⟩
abbrev s_l_loft : Stmt := top 45
theorem sc_l_loft : FnScope ["_law_base", "_law_low_here", "_law_cap", "_law_high", "_law_m", "_law_found", "_law_i", "_law_j", "_law_spot"] ["_law_base", "_law_low_here", "_law_cap", "_law_high"] (defScope s_l_loft) := ⟨rfl, rfl, rfl, by decide +kernel, rfl, by decide +kernel, by decide +kernel⟩
abbrev s_l_area : Stmt := top 46
theorem sc_l_area : FnScope ["_law_ring_here", "_law_found", "_law_k", "_law_p", "_law_q"] ["_law_ring_here"] (defScope s_l_area) := ⟨rfl, rfl, rfl, by decide +kernel, rfl, by decide +kernel, by decide +kernel⟩
abbrev s_l_det : Stmt := top 47
theorem sc_l_det : FnScope ["_law_a", "_law_b", "_law_third", "_law_found", "_law_k", "_law_i", "_law_j", "_law_minor"] ["_law_a", "_law_b", "_law_third"] (defScope s_l_det) := ⟨rfl, rfl, rfl, by decide +kernel, rfl, by decide +kernel, by decide +kernel⟩
abbrev s_l_volume : Stmt := top 48
theorem sc_l_volume : FnScope ["_law_pair", "_law_found", "_law_face"] ["_law_pair"] (defScope s_l_volume) := ⟨rfl, rfl, rfl, by decide +kernel, rfl, by decide +kernel, by decide +kernel⟩
abbrev s_l_try : Stmt := top 49
theorem sc_l_try : FnScope ["_law_ask", "e"] ["_law_ask"] (defScope s_l_try) := ⟨rfl, rfl, rfl, by decide +kernel, rfl, by decide +kernel, by decide +kernel⟩
abbrev s_l_spots : Stmt := top 50
theorem sc_l_spots : FnScope ["_law_bag_here", "_law_m", "_law_found", "_law_k"] ["_law_bag_here", "_law_m"] (defScope s_l_spots) := ⟨rfl, rfl, rfl, by decide +kernel, rfl, by decide +kernel, by decide +kernel⟩
abbrev s_l_heights : Stmt := top 51
theorem sc_l_heights : FnScope ["_law_bag_here", "_law_one", "_law_two"] ["_law_bag_here"] (defScope s_l_heights) := ⟨rfl, rfl, rfl, by decide +kernel, rfl, by decide +kernel, by decide +kernel⟩
abbrev s_l_right : Stmt := top 52
theorem sc_l_right : FnScope ["_law_made", "_law_pair"] ["_law_made", "_law_pair"] (defScope s_l_right) := ⟨rfl, rfl, rfl, by decide +kernel, rfl, by decide +kernel, by decide +kernel⟩
abbrev s_l_any : Stmt := top 53
theorem sc_l_any : FnScope ["_law_bag_here", "_law_m", "_law_base", "_law_cap", "_law_way", "_law_short", "_law_low_here", "_law_high"] ["_law_bag_here"] (defScope s_l_any) := ⟨rfl, rfl, rfl, by decide +kernel, rfl, by decide +kernel, by decide +kernel⟩
abbrev s_l_once : Stmt := top 54
theorem sc_l_once : FnScope ["_law_bag_here", "_law_base", "_law_low_here", "_law_cap", "_law_high", "_law_given_a", "_law_given_b", "_law_low_given", "_law_high_given", "_law_found"] ["_law_bag_here"] (defScope s_l_once) := ⟨rfl, rfl, rfl, by decide +kernel, rfl, by decide +kernel, by decide +kernel⟩
abbrev s_l_prism : Stmt := top 55
theorem sc_l_prism : FnScope ["_law_bag_here", "_law_ring_here", "_law_low_here", "_law_high", "_law_lean", "_law_cap", "_law_spot", "_law_made", "_law_due"] ["_law_bag_here"] (defScope s_l_prism) := ⟨rfl, rfl, rfl, by decide +kernel, rfl, by decide +kernel, by decide +kernel⟩
abbrev s_law : Stmt := top 56
theorem sc_law : FnScope ["_law_script", "_law_bag_here", "_law_turn"] ["_law_script"] (defScope s_law) := ⟨rfl, rfl, rfl, by decide +kernel, rfl, by decide +kernel, by decide +kernel⟩
abbrev s_BadNet : Stmt := inClass (top 3) 0
theorem sc_BadNet : FnScope ["self", "word", "index"] ["self", "word", "index"] (defScope s_BadNet) := ⟨rfl, rfl, rfl, by decide +kernel, rfl, by decide +kernel, by decide +kernel⟩
abbrev s_BadLoft : Stmt := inClass (top 4) 0
theorem sc_BadLoft : FnScope ["self"] ["self"] (defScope s_BadLoft) := ⟨rfl, rfl, rfl, by decide +kernel, rfl, by decide +kernel, by decide +kernel⟩
abbrev s_Net_init : Stmt := inClass (top 19) 0
theorem sc_Net_init : FnScope ["self", "corners", "faces", "at", "corner", "face", "x", "y", "z"] ["self", "corners", "faces"] (defScope s_Net_init) := ⟨rfl, rfl, rfl, by decide +kernel, rfl, by decide +kernel, by decide +kernel⟩
end Ko

namespace Ko
open PySem L2 PySem.Spec PyProof.Rows
open PySem.HandSPX (veTail)
/-! The head: what the top leaves, by one run in the kernel -/
def ecB (K : PySem.W.Frag) (R C : Addr) : Bool := match K.lookup C with
  | some ⟨.type c, _, .cls cd, sl⟩ => (match sl.toList with
    | [_, _, _, _, some (.builtin n), _] => decide (c = "type") && (decide (n = "ValueError.__new__") && (decide (cd.mro = .ref C :: .ref R :: veTail) && (cd.hasDict && !cd.hasDel)))
    | _ => false)
  | _ => false
theorem ecB_ok {K : PySem.W.Frag} {R C : Addr} (h : ecB K R C = true) :
    ∃ nm q N bs sn sub ab col dd k0 k1 k2 k3 k5, K.lookup C = some (excClassObj nm q C N bs (.ref R :: veTail) true sn sub ab col dd k0 k1 k2 k3 k5 "ValueError.__new__") := by
  unfold ecB at h
  split at h
  · rename_i c dd cd sl ho
    split at h
    · rename_i k0 k1 k2 k3 n k5 hs
      simp only [Bool.and_eq_true, decide_eq_true_eq, Bool.not_eq_true'] at h
      obtain ⟨rfl, rfl, hm, hd, hdel⟩ := h
      obtain ⟨nm, bs, mro, ns, qn, hd2, sn, sub, ab, col, del⟩ := cd
      dsimp only at hm hd hdel
      subst hm hd hdel
      have hsl : sl = #[k0, k1, k2, k3, some (.builtin "ValueError.__new__"), k5] := by
        obtain ⟨l⟩ := sl
        simp only at hs
        rw [hs]
      subst hsl
      exact ⟨nm, qn, ns, bs, sn, sub, ab, col, dd, k0, k1, k2, k3, k5, ho⟩
    · cases h
  · cases h
/-- the class of an error, as the text leaves it -/
def clsB (K : PySem.W.Frag) (x : Str) (ps : List Str) : Bool :=
  He.eqO (PySem.W.nsIn K mainGlobals x) (some (some (.ref (He.ga K x)))) && (ecB K (He.ga K "Refused") (He.ga K x) && (He.eqO (PySem.W.findIn K (.ref (He.ga K x)) "__setattr__") (some (some (.builtin "object.__setattr__"))) &&
  (He.eqO (PySem.W.findIn K (.ref (He.ga K x)) "__getattribute__") (some (some (.builtin "BaseException.__getattribute__"))) && (He.eqO (PySem.W.findIn K (.ref (He.ga K x)) "__getattr__") (some none) &&
  (He.eqO (PySem.W.findIn K (.ref (He.ga K x)) "__class__") (some (some (.builtin "object.__class__"))) && ((ps.all fun p => He.eqO (PySem.W.findIn K (.ref (He.ga K x)) p) (some none)) && (PySem.W.keepIn K (.ref (He.ga K x)) &&
  (He.eqO (PySem.W.findIn K (.ref (He.ga K x)) "__init__") (some (some (.ref (He.ma K (He.ga K x) "__init__")))) && decide (PySem.W.typeIn K (.ref (He.ma K (He.ga K x) "__init__")) = some (.type "function"))))))))))
theorem clsB_ok {K : PySem.W.Frag} {h : Heap} {mg : Str → Option Value} {x : Str} {ps : List Str} (X : K.In h) (G : h.Ns mainGlobals mg) (c : clsB K x ps = true) :
    Ecl K mg (He.ga K "Refused") x (He.ga K x) ps ∧ PySem.W.findIn K (.ref (He.ga K x)) "__init__" = some (some (.ref (He.ma K (He.ga K x) "__init__"))) ∧ PySem.W.typeIn K (.ref (He.ma K (He.ga K x) "__init__")) = some (.type "function") := by
  obtain ⟨c1, c⟩ := He.ba c
  obtain ⟨c2, c⟩ := He.ba c
  obtain ⟨c3, c⟩ := He.ba c
  obtain ⟨c4, c⟩ := He.ba c
  obtain ⟨c5, c⟩ := He.ba c
  obtain ⟨c6, c⟩ := He.ba c
  obtain ⟨c7, c⟩ := He.ba c
  obtain ⟨c8, c⟩ := He.ba c
  obtain ⟨c9, c10⟩ := He.ba c
  exact ⟨⟨PySem.W.mg_of X G (He.eqO_ok c1), ecB_ok c2, He.eqO_ok c3, He.eqO_ok c4, He.eqO_ok c5, He.eqO_ok c6, fun p hp => He.eqO_ok (List.all_eq_true.mp c7 p hp), c8⟩, He.eqO_ok c9, of_decide_eq_true c10⟩
def eqF (a b : Option PySem.W.CFound) : Bool := match a, b with
  | some (.val (.builtin n)), some (.val (.builtin m)) => decide (n = m)
  | _, _ => false
theorem eqF_ok {a : Option PySem.W.CFound} {n : String} (h : eqF a (some (.val (.builtin n))) = true) : a = some (.val (.builtin n)) := by
  unfold eqF at h
  split at h
  · rename_i n1 m1 e
    cases e
    rw [of_decide_eq_true h]
  · cases h
/-- the base of the errors -/
def refB (K : PySem.W.Frag) : Bool :=
  He.eqO (PySem.W.nsIn K mainGlobals "Refused") (some (some (.ref (He.ga K "Refused")))) && (PySem.W.readsIn K (He.ga K "Refused") (.type "type") && (He.eqO (PySem.W.specialIn K (.ref (He.ga K "Refused")) "__getattribute__") (some (some (.builtin "type.__getattribute__"))) &&
  (eqF (PySem.W.findCls K (.ref (He.ga K "Refused")) (.type "type") "__init__") (some (.val (.builtin "ValueError.__init__"))) && ((PySem.W.clsIn K (He.ga K "Refused")).isSome && (decide (PySem.W.typeIn K (.ref (He.ga K "Refused")) = some (.type "type")) &&
  (He.eqO (PySem.W.specialIn K (.builtin "object.__class__") "__get__") (some (some (.builtin "getset_descriptor.__get__"))) && (decide (PySem.W.takesIn K (.builtin "object.__class__") = some true) &&
  (decide (PySem.W.subIn K (.ref (He.ga K "Refused")) (.type "BaseException") = some true) && PySem.W.hasDictIn K (He.ga K "Refused")))))))))
theorem refB_ok {K : PySem.W.Frag} {h : Heap} {mg : Str → Option Value} (X : K.In h) (G : h.Ns mainGlobals mg) (c : refB K = true) : RTxt K mg (He.ga K "Refused") := by
  obtain ⟨c1, c⟩ := He.ba c
  obtain ⟨c2, c⟩ := He.ba c
  obtain ⟨c3, c⟩ := He.ba c
  obtain ⟨c4, c⟩ := He.ba c
  obtain ⟨c5, c⟩ := He.ba c
  obtain ⟨c6, c⟩ := He.ba c
  obtain ⟨c7, c⟩ := He.ba c
  obtain ⟨c8, c⟩ := He.ba c
  obtain ⟨c9, c10⟩ := He.ba c
  exact ⟨PySem.W.mg_of X G (He.eqO_ok c1), ⟨c2, He.eqO_ok c3⟩, eqF_ok c4, c5, of_decide_eq_true c6, He.eqO_ok c7, of_decide_eq_true c8, of_decide_eq_true c9, c10⟩

def defNames : List Str := (["folded", "is_whole", "is_fraction", "is_number", "reduced", "pair", "plus", "minus", "times", "below", "compare", "is_corner", "is_face", "face_steps", "edge_of", "surpluses", "open_edges", "is_closed", "determinant", "volume"] : List Str) ++ (["loft", "_law_bag", "_law_draw", "_law_of", "_law_same", "_law_low", "_law_add", "_law_sub", "_law_mul", "_law_lt", "_law_hand", "_law_handed", "_law_number", "_law_ring", "_law_loft", "_law_area", "_law_det", "_law_volume", "_law_try", "_law_spots"] : List Str) ++ (["_law_heights", "_law_right", "_law_any", "_law_once", "_law_prism", "law"] : List Str)
/-- the class of the nets, as the text leaves it -/
def netB (K : PySem.W.Frag) : Bool := (He.Fa.glo "Net").ok K && ((He.Fa.cls "Net").ok K && ((He.Fa.mkr "Net").ok K && ((He.Fa.noat "Net" "corners").ok K && ((He.Fa.noat "Net" "faces").ok K))))
/-- all that is asked of the text -/
def exB (K : PySem.W.Frag) : Bool := refB K && (clsB K "BadNet" ["word", "index"] && (clsB K "BadLoft" [] && ((bltNames.all fun x => He.eqO (PySem.W.nsIn K mainGlobals x) (some none)) && ((defNames.all fun x => He.eqO (PySem.W.nsIn K mainGlobals x) (some (some (.ref (He.ga K x))))) && (decide (He.ga K "BadNet" ≠ He.ga K "Refused") && (decide (He.ga K "BadLoft" ≠ He.ga K "Refused") && (He.eqO (PySem.W.nsIn K mainGlobals "gcd") (some (some (.builtin "math.gcd"))) && (netB K))))))))
def mkD (x : Str) (st : Stmt) : He.DefD := ⟨(x, none), x, x, defArgs st, defBody st, defScope st, [], []⟩
def mkM (x m qual : Str) (st : Stmt) : He.DefD := ⟨(x, some m), m, qual, defArgs st, defBody st, defScope st, [], []⟩
def fnA : List He.DefD := [mkM "BadNet" "__init__" "BadNet.__init__" s_BadNet, mkM "BadLoft" "__init__" "BadLoft.__init__" s_BadLoft, mkM "Net" "__init__" "Net.__init__" s_Net_init, mkD "folded" s_folded, mkD "is_whole" s_is_whole, mkD "is_fraction" s_is_fraction, mkD "is_number" s_is_number, mkD "reduced" s_reduced, mkD "pair" s_pair, mkD "plus" s_plus, mkD "minus" s_minus, mkD "times" s_times, mkD "below" s_below, mkD "compare" s_compare, mkD "is_corner" s_is_corner, mkD "is_face" s_is_face, mkD "face_steps" s_face_steps, mkD "edge_of" s_edge_of, mkD "surpluses" s_surpluses, mkD "open_edges" s_open_edges, mkD "is_closed" s_is_closed, mkD "determinant" s_determinant, mkD "volume" s_volume, mkD "loft" s_loft, mkD "_law_bag" s_l_bag, mkD "_law_draw" s_l_draw, mkD "_law_of" s_l_of, mkD "_law_same" s_l_same, mkD "_law_low" s_l_low, mkD "_law_add" s_l_add, mkD "_law_sub" s_l_sub, mkD "_law_mul" s_l_mul, mkD "_law_lt" s_l_lt, mkD "_law_hand" s_l_hand, mkD "_law_handed" s_l_handed, mkD "_law_number" s_l_number, mkD "_law_ring" s_l_ring, mkD "_law_loft" s_l_loft, mkD "_law_area" s_l_area, mkD "_law_det" s_l_det, mkD "_law_volume" s_l_volume, mkD "_law_try" s_l_try, mkD "_law_spots" s_l_spots, mkD "_law_heights" s_l_heights, mkD "_law_right" s_l_right, mkD "_law_any" s_l_any, mkD "_law_once" s_l_once, mkD "_law_prism" s_l_prism, mkD "law" s_law]
def tfs : List He.Defn := [("_law_once", none)]
abbrev HA : Type := Bool × He.AlD
def frK (g : Addr → Option Obj) : PySem.W.Frag := He.frT g (cStatics :: He.asD g 4)
def obsG (g : Addr → Option Obj) : HA := (exB (frK g) && He.tabsB g tfs (frK g), He.obsD [] fnA (frK g))
structure SaysR (h : Heap) (K : PySem.W.Frag) : Prop where
  ex : exB K = true
  d : He.SaysD [] fnA K
  hd : ∀ p ∈ tfs, PySem.W.codeHdIn K (He.cT K p).1 (He.cT K p).2 = true
  out : ∀ p ∈ tfs, K.lookup (He.cT K p).2 = none
  empty : ∀ p ∈ tfs, h.get? (He.cT K p).2 = some { cls := .none, data := .fields #[] }
theorem says_of {h : Heap} (e : obsG h.get? = (true, He.valD fnA)) : SaysR h (frK h.get?) := by
  have e1 : (exB (frK h.get?) && He.tabsB h.get? tfs (frK h.get?)) = true := congrArg (fun z : HA => z.1) e
  obtain ⟨y1, y2⟩ := He.ba e1
  have both : ∀ p ∈ tfs, PySem.W.codeHdIn (frK h.get?) (He.cT (frK h.get?) p).1 (He.cT (frK h.get?) p).2 = true ∧ ∃ o, h.get? (He.cT (frK h.get?) p).2 = some o ∧ He.emptyTab o = true := fun p hp => by
    obtain ⟨y3, y4⟩ := He.ba (List.all_eq_true.mp y2 p hp)
    refine ⟨y3, ?_⟩
    cases g : h.get? (He.cT (frK h.get?) p).2 with
    | none =>
      rw [g] at y4
      cases y4
    | some ob =>
      rw [g] at y4
      exact ⟨ob, rfl, y4⟩
  refine ⟨y1, congrArg (fun z : HA => z.2) e, fun p hp => (both p hp).1, fun p hp => ?_, fun p hp => ?_⟩
  · obtain ⟨_, ob, g, z⟩ := both p hp
    exact He.frT_none g z
  · obtain ⟨_, ob, g, z⟩ := both p hp
    rw [g, He.emptyTab_eq z]
def hk : PySem.W.Hook where
  α := HA
  obs := fun s => obsG s.heap.get?
  val := fun _ => (true, He.valD fnA)
  says := fun _ h => ∃ K : PySem.W.Frag, K.In h ∧ SaysR h K
  of := fun _ _ e => ⟨_, He.frT_in, says_of e⟩
  keeps := fun _ _ _ y k => by
    obtain ⟨K, a, c⟩ := y
    exact ⟨K, PySem.W.Frag.In.keeps a k, ⟨c.ex, c.d, c.hd, c.out, fun p hp => k _ _ (c.empty p hp)⟩⟩
theorem obsG_eq {g : Addr → Option Obj} {s : Shared} (h : ∀ a, g a = s.heap.get? a) : obsG g = hk.obs s := by
  rw [show g = s.heap.get? from funext h]
  rfl
abbrev Rw : PySem.W.OpenRow := PySem.W.OpenLaw.row PySem.Challenge.rw_mostlaid_k24_lofts_told
def ob (s : PySem.W.SharedT) : HA := obsG (HandSHeadRun.getT s)
theorem ob_eq (s : PySem.W.SharedT) : ob s = hk.obs s.abs := obsG_eq (HandSHeadRun.getT_eq s)
def loose : List Str := (["Refused", "BadNet", "BadLoft", "folded", "is_whole", "is_fraction", "is_number", "reduced", "pair", "plus", "minus", "times", "below", "compare", "Net", "is_corner", "is_face", "face_steps", "edge_of", "surpluses"] : List Str) ++ (["open_edges", "is_closed", "determinant", "volume", "loft", "_law_bag", "_law_draw", "_law_of", "_law_same", "_law_low", "_law_add", "_law_sub", "_law_mul", "_law_lt", "_law_hand", "_law_handed", "_law_number", "_law_ring", "_law_loft", "_law_area"] : List Str) ++ (["_law_det", "_law_volume", "_law_try", "_law_spots", "_law_heights", "_law_right", "_law_any", "_law_once", "_law_prism"] : List Str)
theorem run (w : World) : HandSHeadRun.RunEqI Rw (PySem.W.view Rw.prog [0, 56]) hk ob 9000 loose w := by
  unfold HandSHeadRun.RunEqI
  kernel_rfl
abbrev vw : Program := PySem.W.view Rw.prog [0, 56]
abbrev dl := HandSHeadRun.topDef Rw.prog 56
theorem hd1 : PySem.W.defOf vw Rw.name = some (dl, []) := by kernel_rfl
theorem hd2 : Rw.prog.theDef Rw.name = some (dl.params, dl.body, dl.scope) := by kernel_rfl
theorem hd3 : PySem.W.kwWritten? dl.params.kwonlyargs dl.params.kw_defaults = some [] := by kernel_rfl
theorem hd4 : dl.name = ("law" : PySem.Str) := by kernel_rfl
end Ko

/-! Mathematics of exact numbers: plain Lean, no Python -/
namespace Xm
abbrev Pq := Int × Int
def low (n d : Int) : Pq := (n / (Int.gcd n d : Int), d / (Int.gcd n d : Int))
/-- in lowest terms, the denominator above 0 -/
def Lo (q : Pq) : Prop := 0 < q.2 ∧ Int.gcd q.1 q.2 = 1
def red (n d : Int) : Pq := if d < 0 then low (-n) (-d) else low n d
theorem gcd_pos {n d : Int} (h : d ≠ 0) : 0 < (Int.gcd n d : Int) := by
  have : Int.gcd n d ≠ 0 := fun e => h (Int.gcd_eq_zero_iff.mp e).2
  omega
theorem low_one {n d : Int} (h : Int.gcd n d = 1) : low n d = (n, d) := by
  unfold low; rw [h]; simp
theorem low_den {n : Int} : low n 1 = (n, 1) := low_one (by simp [Int.gcd])
theorem low_mul {n d : Int} (h : d ≠ 0) : (low n d).1 * (Int.gcd n d : Int) = n ∧ (low n d).2 * (Int.gcd n d : Int) = d :=
  ⟨Int.ediv_mul_cancel (Int.gcd_dvd_left ..), Int.ediv_mul_cancel (Int.gcd_dvd_right ..)⟩
theorem low_lo {n d : Int} (h : 0 < d) : Lo (low n d) := by
  have g := gcd_pos (n := n) (d := d) (by omega)
  have ⟨h1, h2⟩ := low_mul (n := n) (d := d) (by omega)
  refine ⟨?_, ?_⟩
  · rcases Int.lt_trichotomy 0 (low n d).2 with c | c | c
    · exact c
    · rw [← c] at h2; omega
    · have := Int.mul_neg_of_neg_of_pos c g; omega
  · show Int.gcd (n / (Int.gcd n d : Int)) (d / (Int.gcd n d : Int)) = 1
    exact Int.gcd_ediv_gcd_ediv_gcd (by omega)
/-- the same value -/
def Eqv (p q : Pq) : Prop := p.1 * q.2 = q.1 * p.2
theorem low_val {n d : Int} (h : d ≠ 0) : (low n d).1 * d = n * (low n d).2 := by
  have ⟨h1, h2⟩ := low_mul (n := n) (d := d) h
  generalize (low n d).1 = a at *
  generalize (low n d).2 = b at *
  generalize (Int.gcd n d : Int) = g at *
  subst h1 h2
  grind
theorem lo_unique {p q : Pq} (hp : Lo p) (hq : Lo q) (h : p.1 * q.2 = q.1 * p.2) : p = q := by
  obtain ⟨a, b⟩ := p
  obtain ⟨c, d⟩ := q
  obtain ⟨b0, gp⟩ := hp
  obtain ⟨d0, gq⟩ := hq
  dsimp only at *
  have dv : ∀ {x y z : Int}, Int.gcd x y = 1 → y ∣ x * z → y ∣ z := fun {x y z} g d => by
    have h1 : y.natAbs ∣ x.natAbs * z.natAbs := by rw [← Int.natAbs_mul]; exact Int.natAbs_dvd_natAbs.mpr d
    exact Int.natAbs_dvd_natAbs.mp (Nat.Coprime.dvd_of_dvd_mul_left (Nat.Coprime.symm g) h1)
  have h1 : b ∣ d := dv gp ⟨c, by rw [h]; exact Int.mul_comm ..⟩
  have h2 : d ∣ b := dv gq ⟨a, by rw [← h]; exact Int.mul_comm ..⟩
  have e : b = d := Int.dvd_antisymm (by omega) (by omega) h1 h2
  subst e
  have : a = c := Int.eq_of_mul_eq_mul_right (by omega) h
  rw [this]
theorem low_low {q : Pq} (h : Lo q) : low q.1 q.2 = q := by rw [low_one h.2]
theorem lo_int (n : Int) : Lo (n, 1) := ⟨by show (0:Int) < 1; omega, by show Int.gcd n 1 = 1; simp [Int.gcd]⟩
theorem natAbs_ediv_le (n : Int) {g : Int} (h : 0 < g) (d : g ∣ n) : (n / g).natAbs ≤ n.natAbs := by
  obtain ⟨k, rfl⟩ := d
  rw [Int.mul_ediv_cancel_left _ (by omega), Int.natAbs_mul]
  exact Nat.le_mul_of_pos_left _ (by omega)
theorem low_le {n d : Int} (h : d ≠ 0) : (low n d).1.natAbs ≤ n.natAbs ∧ (low n d).2.natAbs ≤ d.natAbs :=
  ⟨natAbs_ediv_le n (gcd_pos h) (Int.gcd_dvd_left ..), natAbs_ediv_le d (gcd_pos h) (Int.gcd_dvd_right ..)⟩
theorem gcd_le {n d : Int} (h : d ≠ 0) : Int.gcd n d ≤ d.natAbs := Nat.gcd_le_right _ (by omega)
theorem red_lo {n d : Int} (h : d ≠ 0) : Lo (red n d) := by
  unfold red; split
  · exact low_lo (by omega)
  · exact low_lo (by omega)
/-! sums, differences, products, quotients -/
def add (p q : Pq) : Pq := low (p.1 * q.2 + q.1 * p.2) (p.2 * q.2)
def sub (p q : Pq) : Pq := low (p.1 * q.2 - q.1 * p.2) (p.2 * q.2)
def mul (p q : Pq) : Pq := low (p.1 * q.1) (p.2 * q.2)
def dv (p q : Pq) : Pq := red (p.1 * q.2) (p.2 * q.1)
def under (p q : Pq) : Bool := decide (p.1 * q.2 < q.1 * p.2)
theorem mul_pos' {a b : Int} (h : 0 < a) (k : 0 < b) : 0 < a * b := Int.mul_pos h k
theorem red_pos {n d : Int} (h : 0 < d) : red n d = low n d := by unfold red; rw [if_neg (by omega)]
theorem add_int (a b : Int) : add (a, 1) (b, 1) = (a + b, 1) := by
  unfold add; simp only [Int.mul_one]; exact low_den
theorem sub_int (a b : Int) : sub (a, 1) (b, 1) = (a - b, 1) := by
  unfold sub; simp only [Int.mul_one]; exact low_den
theorem dv_turn {p q : Pq} (h : q.1 ≠ 0) (hq : 0 < q.2) (hp : 0 < p.2) : dv p q = mul p (if 0 < q.1 then (q.2, q.1) else (-q.2, -q.1)) := by
  unfold dv mul
  split
  · rename_i c
    rw [red_pos (mul_pos' hp c)]
  · rename_i c
    have : p.2 * q.1 < 0 := Int.mul_neg_of_pos_of_neg hp (by omega)
    unfold red; rw [if_pos this]
    show low (-(p.1 * q.2)) (-(p.2 * q.1)) = low (p.1 * -q.2) (p.2 * -q.1)
    rw [Int.mul_neg, Int.mul_neg]
/-! the order -/
theorem under_irr (p : Pq) : under p p = false := by unfold under; simp
theorem under_trans {p q r : Pq} (hp : 0 < p.2) (hq : 0 < q.2) (hr : 0 < r.2) (h1 : under p q = true) (h2 : under q r = true) : under p r = true := by
  unfold under at *
  have h1 := of_decide_eq_true h1
  have h2 := of_decide_eq_true h2
  refine decide_eq_true ?_
  have a1 : p.1 * q.2 * r.2 < q.1 * p.2 * r.2 := Int.mul_lt_mul_of_pos_right h1 hr
  have a2 : q.1 * r.2 * p.2 < r.1 * q.2 * p.2 := Int.mul_lt_mul_of_pos_right h2 hp
  have e1 : q.1 * p.2 * r.2 = q.1 * r.2 * p.2 := by grind
  have a3 : (p.1 * r.2) * q.2 < (r.1 * p.2) * q.2 := by
    have b1 : p.1 * q.2 * r.2 = (p.1 * r.2) * q.2 := by grind
    have b2 : r.1 * q.2 * p.2 = (r.1 * p.2) * q.2 := by grind
    omega
  exact Int.lt_of_mul_lt_mul_right a3 (by omega)
theorem under_tri {p q : Pq} (hp : Lo p) (hq : Lo q) (h1 : under p q = false) (h2 : under q p = false) : p = q := by
  unfold under at *
  have h1 := of_decide_eq_false h1
  have h2 := of_decide_eq_false h2
  exact lo_unique hp hq (by omega)
theorem under_asym {p q : Pq} (h1 : under p q = true) : under q p = false := by
  unfold under at *
  have h1 := of_decide_eq_true h1
  refine decide_eq_false (by omega)
/-! keys of the order -/
def key (m : Int) (q : Pq) : Int := (q.1 * (m * m)) / q.2
theorem key_lt {m : Int} {p q : Pq} (hp : 0 < p.2) (hq : 0 < q.2) (lp : p.2 ≤ m) (lq : q.2 ≤ m) (h : under p q = true) : key m p < key m q := by
  unfold under at h
  have h := of_decide_eq_true h
  have hm : 0 < m := by omega
  have hmm : p.2 * q.2 ≤ m * m := Int.mul_le_mul lp lq (by omega) (by omega)
  unfold key
  -- (a s / b) + 1 ≤ c s / d
  have k1 : (p.1 * (m * m)) / p.2 * p.2 ≤ p.1 * (m * m) := Int.ediv_mul_le _ (by omega)
  generalize (p.1 * (m * m)) / p.2 = x at *
  suffices x + 1 ≤ (q.1 * (m * m)) / q.2 by omega
  refine (Int.le_ediv_iff_mul_le hq).mpr ?_
  -- (x+1) q2 ≤ q1 m m ; multiply by p2
  have : (x + 1) * q.2 * p.2 ≤ q.1 * (m * m) * p.2 := by
    have s1 : (x * p.2) * q.2 ≤ (p.1 * (m * m)) * q.2 := Int.mul_le_mul_of_nonneg_right k1 (by omega)
    have s2 : (p.1 * q.2 + 1) * (m * m) ≤ (q.1 * p.2) * (m * m) := Int.mul_le_mul_of_nonneg_right (by omega) (Int.le_of_lt (mul_pos' hm hm))
    have e1 : (x + 1) * q.2 * p.2 = (x * p.2) * q.2 + p.2 * q.2 := by grind
    have e2 : (p.1 * (m * m)) * q.2 + m * m = (p.1 * q.2 + 1) * (m * m) := by grind
    have e3 : q.1 * (m * m) * p.2 = (q.1 * p.2) * (m * m) := by grind
    omega
  exact Int.le_of_mul_le_mul_right this hp
theorem key_inj {m : Int} {p q : Pq} (hp : Lo p) (hq : Lo q) (lp : p.2 ≤ m) (lq : q.2 ≤ m) (h : key m p = key m q) : p = q := by
  refine under_tri hp hq ?_ ?_
  · cases c : under p q with
    | false => rfl
    | true => have := key_lt hp.1 hq.1 lp lq c; omega
  · cases c : under q p with
    | false => rfl
    | true => have := key_lt hq.1 hp.1 lq lp c; omega
theorem key_mono {m : Int} {p q : Pq} (hp : Lo p) (hq : Lo q) (lp : p.2 ≤ m) (lq : q.2 ≤ m) (h : key m p < key m q) : under p q = true := by
  cases c : under p q with
  | true => rfl
  | false =>
    cases d : under q p with
    | true => have := key_lt hq.1 hp.1 lq lp d; omega
    | false => rw [under_tri hp hq c d] at h; omega
/-! strictly ascending lists -/
def Asc (l : List Pq) : Prop := l.Pairwise fun p q => under p q = true
def ins (l : List Pq) (q : Pq) : List Pq := if q ∈ l then l else l.insertIdx ((l.filter fun p => under p q).length) q
def ord (l : List Pq) : List Pq := l.foldl ins []
theorem asc_unique : ∀ {l k : List Pq}, (∀ p ∈ l, Lo p) → (∀ p ∈ k, Lo p) → Asc l → Asc k → (∀ p, p ∈ l ↔ p ∈ k) → l = k
  | [], [], _, _, _, _, _ => rfl
  | [], q :: k, _, _, _, _, h => absurd ((h q).mpr (.head _)) (by simp)
  | p :: l, [], _, _, _, _, h => absurd ((h p).mp (.head _)) (by simp)
  | p :: l, q :: k, hl, hk, al, ak, h => by
    obtain ⟨a1, a2⟩ := List.pairwise_cons.mp al
    obtain ⟨b1, b2⟩ := List.pairwise_cons.mp ak
    have e : p = q := by
      rcases List.mem_cons.mp ((h p).mp (.head _)) with e | e
      · exact e
      rcases List.mem_cons.mp ((h q).mpr (.head _)) with e2 | e2
      · exact e2.symm
      have u1 := b1 _ e
      have u2 := a1 _ e2
      rw [under_asym u1] at u2
      cases u2
    subst e
    have : l = k := by
      refine asc_unique (fun x hx => hl x (.tail _ hx)) (fun x hx => hk x (.tail _ hx)) a2 b2 fun x => ?_
      constructor
      · intro hx
        rcases List.mem_cons.mp ((h x).mp (.tail _ hx)) with e | e
        · subst e
          have := a1 _ hx
          rw [under_irr] at this
          cases this
        · exact e
      · intro hx
        rcases List.mem_cons.mp ((h x).mpr (.tail _ hx)) with e | e
        · subst e
          have := b1 _ hx
          rw [under_irr] at this
          cases this
        · exact e
    rw [this]
theorem asc_split {q : Pq} (hq : Lo q) : ∀ {l : List Pq}, (∀ p ∈ l, Lo p) → Asc l → l.filter (fun p => under p q) ++ l.filter (fun p => !under p q) = l
  | [], _, _ => rfl
  | p :: l, hl, al => by
    obtain ⟨a1, a2⟩ := List.pairwise_cons.mp al
    have ih := asc_split hq (fun x hx => hl x (.tail _ hx)) a2
    cases c : under p q with
    | true =>
      rw [List.filter_cons_of_pos (by exact c), List.filter_cons_of_neg (by simp [c]), List.cons_append, ih]
    | false =>
      have e : l.filter (fun p => under p q) = [] := by
        rw [List.filter_eq_nil_iff]
        intro x hx u
        have := under_trans (hl p (.head _)).1 (hl x (.tail _ hx)).1 hq.1 (a1 x hx) u
        rw [c] at this
        cases this
      rw [List.filter_cons_of_neg (by simp [c]), List.filter_cons_of_pos (by simp [c]), e, List.nil_append]
      rw [e, List.nil_append] at ih
      rw [ih]
theorem insertIdx_app {α : Type} (a : α) : ∀ (l k : List α), (l ++ k).insertIdx l.length a = l ++ a :: k
  | [], k => by simp
  | x :: l, k => by
    show (x :: (l ++ k)).insertIdx (l.length + 1) a = _
    rw [List.insertIdx_succ_cons, insertIdx_app a l k]
    rfl
theorem ins_eq {q : Pq} (hq : Lo q) {l : List Pq} (hl : ∀ p ∈ l, Lo p) (al : Asc l) (h : q ∉ l) : ins l q = l.filter (fun p => under p q) ++ q :: l.filter (fun p => !under p q) := by
  unfold ins
  rw [if_neg h]
  conv => lhs; rw [← asc_split hq hl al]
  rw [List.filter_append, List.filter_filter, List.filter_filter]
  have e1 : l.filter (fun a => under a q && under a q) = l.filter (fun p => under p q) := by simp
  have e2 : l.filter (fun a => under a q && !under a q) = [] := by simp
  rw [e1, e2, List.append_nil]
  exact insertIdx_app q _ _
theorem ins_asc {q : Pq} (hq : Lo q) {l : List Pq} (hl : ∀ p ∈ l, Lo p) (al : Asc l) : Asc (ins l q) := by
  by_cases h : q ∈ l
  · unfold ins; rw [if_pos h]; exact al
  rw [ins_eq hq hl al h]
  refine List.pairwise_append.mpr ⟨al.filter _, List.pairwise_cons.mpr ⟨fun x hx => ?_, al.filter _⟩, fun x hx y hy => ?_⟩
  · obtain ⟨hx, u⟩ := List.mem_filter.mp hx
    cases c : under q x with
    | true => rfl
    | false =>
      have e := under_tri (hl x hx) hq (by simpa using u) c
      exact absurd (e ▸ hx) h
  · obtain ⟨hx, u⟩ := List.mem_filter.mp hx
    rcases List.mem_cons.mp hy with rfl | hy
    · exact u
    · obtain ⟨hy, u2⟩ := List.mem_filter.mp hy
      cases c : under q y with
      | true => exact under_trans (hl x hx).1 hq.1 (hl y hy).1 u c
      | false =>
        have e := under_tri (hl y hy) hq (by simpa using u2) c
        exact absurd (e ▸ hy) h
theorem ins_mem {q : Pq} {l : List Pq} {x : Pq} : x ∈ ins l q ↔ x = q ∨ x ∈ l := by
  unfold ins
  split
  · rename_i h
    constructor
    · exact Or.inr
    · rintro (rfl | hx)
      · exact h
      · exact hx
  · exact List.mem_insertIdx (List.length_filter_le ..)
theorem ord_ok : ∀ (l acc : List Pq), (∀ p ∈ l, Lo p) → (∀ p ∈ acc, Lo p) → Asc acc → Asc (l.foldl ins acc) ∧ ∀ x, x ∈ l.foldl ins acc ↔ x ∈ l ∨ x ∈ acc
  | [], acc, _, _, a => ⟨a, fun x => by simp⟩
  | q :: l, acc, hl, ha, a => by
    have hq := hl q (.head _)
    have ⟨i1, i2⟩ := ord_ok l (ins acc q) (fun x hx => hl x (.tail _ hx)) (fun x hx => (ins_mem.mp hx).elim (fun e => e ▸ hq) (ha x)) (ins_asc hq ha a)
    refine ⟨i1, fun x => ?_⟩
    rw [List.foldl_cons, i2, ins_mem, List.mem_cons]
    constructor
    · rintro (h | h | h)
      · exact .inl (.inr h)
      · exact .inl (.inl h)
      · exact .inr h
    · rintro ((h | h) | h)
      · exact .inr (.inl h)
      · exact .inl h
      · exact .inr (.inr h)
theorem ord_asc {l : List Pq} (hl : ∀ p ∈ l, Lo p) : Asc (ord l) := (ord_ok l [] hl (fun _ h => by cases h) .nil).1
theorem ord_mem {l : List Pq} (hl : ∀ p ∈ l, Lo p) (x : Pq) : x ∈ ord l ↔ x ∈ l := by
  rw [show (x ∈ ord l) ↔ _ from (ord_ok l [] hl (fun _ h => by cases h) .nil).2 x]
  simp
theorem ord_of {l k : List Pq} (hl : ∀ p ∈ l, Lo p) (hk : Asc k) (h : ∀ x, x ∈ k ↔ x ∈ l) : k = ord l :=
  asc_unique (fun p hp => hl p ((h p).mp hp)) (fun p hp => hl p ((ord_mem hl p).mp hp)) hk (ord_asc hl) fun x => by rw [h, ord_mem hl]
/-! the least, the greatest -/
def lst : List Pq → Pq → Pq := fun l b => l.foldl (fun b q => if under q b = true then q else b) b
def grt : List Pq → Pq → Pq := fun l b => l.foldl (fun b q => if under b q = true then q else b) b
theorem lst_ok : ∀ (l : List Pq) (b : Pq), (∀ p ∈ l, Lo p) → Lo b → (lst l b = b ∨ lst l b ∈ l) ∧ under b (lst l b) = false ∧ ∀ x ∈ l, under x (lst l b) = false
  | [], b, _, _ => ⟨.inl rfl, under_irr b, fun x h => by cases h⟩
  | q :: l, b, hl, hb => by
    have hq := hl q (.head _)
    have e : lst (q :: l) b = lst l (if under q b = true then q else b) := rfl
    rw [e]
    have hc : Lo (if under q b = true then q else b) := by split <;> assumption
    obtain ⟨h1, h2, h3⟩ := lst_ok l (if under q b = true then q else b) (fun x hx => hl x (.tail _ hx)) hc
    generalize hr : lst l (if under q b = true then q else b) = r at *
    have hrl : Lo r := by
      rcases h1 with e | e
      · rw [e]; exact hc
      · exact hl r (.tail _ e)
    have key : under q r = false ∧ under b r = false := by
      cases c : under q b with
      | true =>
        rw [if_pos c] at h2
        refine ⟨h2, ?_⟩
        cases d : under b r with
        | false => rfl
        | true => rw [under_trans hq.1 hb.1 hrl.1 c d] at h2; cases h2
      | false =>
        rw [if_neg (by rw [c]; simp)] at h2
        refine ⟨?_, h2⟩
        cases d : under q r with
        | false => rfl
        | true =>
          cases g : under r b with
          | true => rw [under_trans hq.1 hrl.1 hb.1 d g] at c; cases c
          | false => rw [under_tri hb hrl h2 g] at c; rw [c] at d; cases d
    refine ⟨?_, key.2, fun x hx => ?_⟩
    · rcases h1 with e | e
      · rw [e]
        split
        · exact .inr (.head _)
        · exact .inl rfl
      · exact .inr (.tail _ e)
    · rcases List.mem_cons.mp hx with rfl | hx
      · exact key.1
      · exact h3 x hx
theorem grt_ok : ∀ (l : List Pq) (b : Pq), (∀ p ∈ l, Lo p) → Lo b → (grt l b = b ∨ grt l b ∈ l) ∧ under (grt l b) b = false ∧ ∀ x ∈ l, under (grt l b) x = false
  | [], b, _, _ => ⟨.inl rfl, under_irr b, fun x h => by cases h⟩
  | q :: l, b, hl, hb => by
    have hq := hl q (.head _)
    have e : grt (q :: l) b = grt l (if under b q = true then q else b) := rfl
    rw [e]
    have hc : Lo (if under b q = true then q else b) := by split <;> assumption
    obtain ⟨h1, h2, h3⟩ := grt_ok l (if under b q = true then q else b) (fun x hx => hl x (.tail _ hx)) hc
    generalize hr : grt l (if under b q = true then q else b) = r at *
    have hrl : Lo r := by
      rcases h1 with e | e
      · rw [e]; exact hc
      · exact hl r (.tail _ e)
    have key : under r q = false ∧ under r b = false := by
      cases c : under b q with
      | true =>
        rw [if_pos c] at h2
        refine ⟨h2, ?_⟩
        cases d : under r b with
        | false => rfl
        | true => rw [under_trans hrl.1 hb.1 hq.1 d c] at h2; cases h2
      | false =>
        rw [if_neg (by rw [c]; simp)] at h2
        refine ⟨?_, h2⟩
        cases d : under r q with
        | false => rfl
        | true =>
          cases g : under b r with
          | true => rw [under_trans hb.1 hrl.1 hq.1 g d] at c; cases c
          | false => rw [under_tri hb hrl g h2] at c; rw [c] at d; cases d
    refine ⟨?_, key.2, fun x hx => ?_⟩
    · rcases h1 with e | e
      · rw [e]
        split
        · exact .inr (.head _)
        · exact .inl rfl
      · exact .inr (.tail _ e)
    · rcases List.mem_cons.mp hx with rfl | hx
      · exact key.1
      · exact h3 x hx
theorem lst_ord {b : Pq} {l : List Pq} (hl : ∀ p ∈ b :: l, Lo p) : (ord (b :: l))[0]? = some (lst (b :: l) b) := by
  have hb := hl b (.head _)
  obtain ⟨h1, h2, h3⟩ := lst_ok (b :: l) b hl hb
  have hm : lst (b :: l) b ∈ ord (b :: l) := (ord_mem hl _).mpr (h1.elim (fun e => by rw [e]; exact .head _) id)
  have ha := ord_asc hl
  cases ho : ord (b :: l) with
  | nil => rw [ho] at hm; cases hm
  | cons x k =>
    have hx : x ∈ b :: l := (ord_mem hl x).mp (by rw [ho]; exact .head _)
    rw [ho] at hm ha
    show some x = _
    rcases List.mem_cons.mp hm with e | e
    · rw [e]
    · have := (List.pairwise_cons.mp ha).1 _ e
      rw [h3 x hx] at this
      cases this
theorem grt_ord {b : Pq} {l : List Pq} (hl : ∀ p ∈ b :: l, Lo p) : (ord (b :: l)).getLast? = some (grt (b :: l) b) := by
  have hb := hl b (.head _)
  obtain ⟨h1, h2, h3⟩ := grt_ok (b :: l) b hl hb
  have hm : grt (b :: l) b ∈ ord (b :: l) := (ord_mem hl _).mpr (h1.elim (fun e => by rw [e]; exact .head _) id)
  have ha := ord_asc hl
  have hmm := fun x => ord_mem hl x
  generalize ord (b :: l) = k at *
  rcases List.eq_nil_or_concat k with rfl | ⟨k', x, rfl⟩
  · cases hm
  · have hx : x ∈ b :: l := (hmm x).mp (by simp)
    simp only [List.concat_eq_append] at *
    rw [List.getLast?_append]
    simp only [List.getLast?_singleton, Option.some_or]
    rcases List.mem_append.mp hm with e | e
    · have := (List.pairwise_append.mp ha).2.2 _ e x (by simp)
      rw [h3 x hx] at this
      cases this
    · rw [List.mem_singleton.mp e]
end Xm

/-! Readings taken apart step by step: one lemma for each construct, a driver -/
namespace Ko
open PySem L2 PySem.Spec PyProof.Rows
abbrev Fg := PySem.W.Frag
abbrev Sg := L2.St
/-! expressions -/
section
variable {σ : Sg} {H : Hp} {Q : VK} {v x y : V} {i j : Nat} {ta tb te : TE} {K : Fg}
theorem g_var (h : σ[i]? = some (some v)) (q : Q v H) : tVar i σ H Q := ⟨v, h, q⟩
theorem g_c (q : Q v H) : tC v σ H Q := q
theorem g_op {r : R2} (q : ta σ H fun x H1 => tb σ H1 fun y H2 => r x y H2 Q) : tOp r ta tb σ H Q := q
theorem g_un {r : V → Hp → VK → Prop} (q : ta σ H fun x H1 => r x H1 Q) : tUn r ta σ H Q := q
theorem g_rI0 {g : Int → Int → V} {a b : Int} (q : Q (g a b) H) : rI0 g (.int a) (.int b) H Q := ⟨a, b, rfl, rfl, q⟩
theorem g_rI {C : Int → Int → Prop} {g : Int → Int → V} {a b : Int} (q : Q (g a b) H) (c : C a b) : rI C g (.int a) (.int b) H Q := ⟨a, b, rfl, rfl, c, q⟩
theorem g_rU {g : Int → V} {a : Int} (q : Q (g a) H) : rU g (.int a) H Q := ⟨a, rfl, q⟩
theorem g_cb {r : List V → Hp → VK → Prop} {t : TA} (q : t σ H fun vs H1 => r vs H1 Q) : tCB r t σ H Q := q
theorem g_call {sp : Sp} {E : XK} {t : TA} (q : t σ H fun vs H1 => sp vs H1 Q E) : tCall sp [] E t σ H Q := by
  show t σ H fun vs H1 => sp (vs ++ []) H1 Q E
  simpa using q
theorem g_nil {Q : List V → Hp → Prop} (q : Q [] H) : tNil σ H Q := q
theorem g_cons {tr : TA} {Q : List V → Hp → Prop} (q : ta σ H fun x H1 => tr σ H1 fun xs H2 => Q (x :: xs) H2) : tCons ta tr σ H Q := q
theorem g_tup {t : TA} (q : t σ H fun xs H1 => xs.length ≤ sizeLine ∧ ∀ p, H1 p = none → Q (.ref p) (upd H1 p (.tup xs))) : tTup t σ H Q := q
theorem g_lst {t : TA} (q : t σ H fun xs H1 => xs.length ≤ sizeLine ∧ ∀ p, H1 p = none → Q (.ref p) (upd H1 p (.lst xs))) : tLst t σ H Q := q
theorem small_line {n : Nat} (h : n ≤ 100000) : n ≤ sizeLine := Nat.le_trans h (by rw [sizeLine_eq]; decide)
theorem g_new {xs : List V} {P : Prop} (h : xs.length ≤ 100000) (q : P) : xs.length ≤ sizeLine ∧ P := ⟨small_line h, q⟩
/-! tests -/
variable {R : Bool → Hp → Prop} {t u : TT} {b : Bool}
theorem g_test (q : te σ H fun x H' => ∃ k, x = .bl k ∧ R k H') : tTest te σ H R := q
theorem g_B (q : te σ H fun x H' => ∃ k, x = .bl k ∧ R k H') : tB te σ H R := q
theorem g_bl (q : R b H) : ∃ k, V.bl b = .bl k ∧ R k H := ⟨b, rfl, q⟩
theorem g_and (q : t σ H fun c H1 => if c = true then u σ H1 R else R false H1) : tAnd t u σ H R := q
theorem g_or (q : t σ H fun c H1 => if c = true then R true H1 else u σ H1 R) : tOr t u σ H R := q
theorem g_not (q : t σ H fun c H1 => R (!c) H1) : tNot t σ H R := q
theorem g_andV (q : ta σ H fun x H1 => ∃ c, x = .bl c ∧ if c = true then tb σ H1 Q else Q (.bl false) H1) : tAndV ta tb σ H Q := q
theorem g_orV (q : ta σ H fun x H1 => ∃ c, x = .bl c ∧ if c = true then Q (.bl true) H1 else tb σ H1 Q) : tOrV ta tb σ H Q := q
theorem g_notV (q : ta σ H fun x H1 => ∃ c, x = .bl c ∧ Q (.bl (!c)) H1) : tNotV ta σ H Q := q
theorem g_if (q : t σ H fun c H1 => if c = true then ta σ H1 Q else tb σ H1 Q) : tIf t ta tb σ H Q := q
theorem g_blI {A B : Prop} (q : if b = true then A else B) : ∃ c, V.bl b = .bl c ∧ if c = true then A else B := ⟨b, rfl, q⟩
theorem g_blF {f : Bool → Prop} (q : f b) : ∃ c, V.bl b = .bl c ∧ f c := ⟨b, rfl, q⟩
theorem g_blQ {f : Bool → V} (q : Q (f b) H) : ∃ c, V.bl b = .bl c ∧ Q (f c) H := ⟨b, rfl, q⟩
/-! statements -/
variable {D : Ends} {s1 s2 : TS} {tg : TG}
theorem g_next (q : D.nx σ H) : tNext D σ H := q
theorem g_seq (q : s1 { D with nx := s2 D } σ H) : tSeq s1 s2 D σ H := q
theorem g_asg (q : te σ H fun x H1 => tg x σ H1 D.nx) : tAsg te tg D σ H := q
theorem g_name {N : Sg → Hp → Prop} (q : N (σ.set i (some v)) H) : gName i v σ H N := q
theorem g_ret (q : te σ H D.rt) : tRet te D σ H := q
theorem g_retN (q : D.rt .non H) : tRetN D σ H := q
theorem g_drop (q : te σ H fun _ H1 => D.nx σ H1) : tDrop te D σ H := q
theorem g_ifS (q : t σ H fun c H1 => if c = true then s1 D σ H1 else s2 D σ H1) : tIfS t s1 s2 D σ H := q
theorem g_par {a : TA} (q : a σ H fun vs H1 => ∃ v w, vs = [v, w] ∧ D.nx ((σ.set i (some v)).set j (some w)) H1) : tPar i j a D σ H := q
theorem g_parE {v w : V} {f : V → V → Prop} (q : f v w) : ∃ v' w', [v, w] = [v', w'] ∧ f v' w' := ⟨v, w, rfl, q⟩
theorem g_eq (q : Q (.bl (decide (x = y))) H) (h : scal x y = true) : rEq x y H Q := ⟨h, q⟩
theorem g_ne (q : Q (.bl (!decide (x = y))) H) (h : scal x y = true) : rNe x y H Q := ⟨h, q⟩
/-! what stands in the heap -/
theorem sq_t {H H' : Hp} (s : Same H H') {a : Addr} {xs : List V} (h : SqT K H a xs) : SqT K H' a xs := Evl_t s h
  where Evl_t {H H' : Hp} (s : Same H H') {a : Addr} {xs : List V} (h : SqT K H a xs) : SqT K H' a xs := by
          rcases h with (h | ⟨o, h⟩) | h
          · exact .inl (.inl (s _ _ h))
          · exact .inl (.inr ⟨o, s _ _ h⟩)
          · exact .inr h
theorem sq_l {H H' : Hp} (s : Same H H') {a : Addr} {xs : List V} (h : SqL K H a xs) : SqL K H' a xs := by
  rcases h with (h | ⟨o, h⟩) | h
  · exact .inl (.inl (s _ _ h))
  · exact .inl (.inr ⟨o, s _ _ h⟩)
  · exact .inr h
theorem same_new {p : Addr} {o : HO} (n : H p = none) : Same H (upd H p o) := Same.new (Same.refl H) n
end

theorem cxK {CX : CXT} {P : Program} {w : World} {K : Fg} {mg : Str → Option Value} {base : Heap} {N : List Str} {qual : Str} {scope : Scope} {f : Addr} {cd : Value} {A : Around} {outer : List Env} {s : Shared} {H : Hp} {E : XK} :
    (cxOf CX P w K mg base N qual scope f cd A outer s H E).nox.K = K := rfl
theorem cxK' {CX : CXT} {P : Program} {w : World} {K : Fg} {mg : Str → Option Value} {base : Heap} {N : List Str} {qual : Str} {scope : Scope} {f : Addr} {cd : Value} {A : Around} {outer : List Env} {s : Shared} {H : Hp} {E : XK} :
    (cxOf CX P w K mg base N qual scope f cd A outer s H E).K = K := rfl
theorem iteDT {A B p : Prop} [Decidable p] (h : p) (q : A) : if decide p = true then A else B := by
  rw [decide_eq_true h]
  exact iteT q
theorem iteDF {A B p : Prop} [Decidable p] (h : ¬ p) (q : B) : if decide p = true then A else B := by
  rw [decide_eq_false h]
  exact iteF q
theorem iteBT {A B : Prop} {b : Bool} (h : b = true) (q : A) : if b = true then A else B := by
  rw [h]
  exact iteT q
theorem iteBF {A B : Prop} {b : Bool} (h : b = false) (q : B) : if b = true then A else B := by
  rw [h]
  exact iteF q
theorem iteNT {A B p : Prop} [Decidable p] (h : p) (q : B) : if (!decide p) = true then A else B := by
  rw [decide_eq_true h]
  exact iteF q
theorem iteNF {A B p : Prop} [Decidable p] (h : ¬ p) (q : A) : if (!decide p) = true then A else B := by
  rw [decide_eq_false h]
  exact iteT q
/-! named readings of operators and built-ins -/
def rgIsN : R2 := fun x y H Q => y = .non ∧ Q (.bl (decide (x = .non))) H
def rgNotN : R2 := fun x y H Q => y = .non ∧ Q (.bl (!decide (x = .non))) H
theorem og_isN {X : Cx} : OpR X (compareOp .Is) rgIsN := op_isN
theorem og_notN {X : Cx} : OpR X (compareOp .IsNot) rgNotN := op_notN
def rgLen (K : Fg) : List V → Hp → VK → Prop := fun xs H Q => ∃ x n, xs = [x] ∧ LenV K x H n ∧ Q (.int n) H
theorem cg_len {X : Cx} : CallR X (.builtin "len") (rgLen X.K) := call_len
def rgAbs : List V → Hp → VK → Prop := fun xs H Q => ∃ i, xs = [.int i] ∧ Q (.int (if i < 0 then -i else i)) H
theorem cg_abs {X : Cx} : CallR X (.builtin "abs") rgAbs := call_abs
def rgInt : List V → Hp → VK → Prop := fun xs H Q => (∃ i, xs = [.int i] ∧ Q (.int i) H) ∨ ∃ k, xs = [.bl k] ∧ Q (.int (if k then 1 else 0)) H
theorem cg_int {X : Cx} : CallR X (.type "int") rgInt := call_int1
def rgStr : List V → Hp → VK → Prop := fun xs H Q => ∃ i, xs = [.int i] ∧ i.natAbs.log2 < 1920 ∧ Q (.str (toString i)) H
theorem cg_str {X : Cx} : CallR X (.type "str") rgStr := call_str_int
def rgIsi (K : Fg) : List V → Hp → VK → Prop := rIsi K
theorem cg_isi {X : Cx} : CallR X (.builtin "isinstance") (rgIsi X.K) := call_isi
def rgIsiT (K : Fg) : List V → Hp → VK → Prop := rIsiT K
theorem cg_isiT {X : Cx} : CallR X (.builtin "isinstance") (rgIsiT X.K) := call_isiT
def rgAddS : R2 := fun x y H Q => ∃ i j, x = .str i ∧ y = .str j ∧ i.length + j.length ≤ sizeLine ∧ Q (.str (i ++ j)) H
theorem op_add_s {X : Cx} : OpR X (binaryOp .Add) rgAddS := op_add_str
def rgInS : R2 := fun x y H Q => ∃ (c : Nat) (z : Str), x = .str ⟨#[c]⟩ ∧ y = .str z ∧ Q (.bl (decide (c ∈ z.cps.toList))) H
theorem op_inS {X : Cx} : OpR X (compareOp .In) rgInS := op_in_sign
section
variable {H : Hp} {Q : VK} {x v : V} {a : Addr} {xs : List V} {K : Fg} {i : Int} {b : Bool}
theorem g_isN0 (q : Q (.bl true) H) : rgIsN .non .non H Q := ⟨rfl, q⟩
theorem g_isN1 (q : Q (.bl false) H) (h : x ≠ .non) : rgIsN x .non H Q := ⟨rfl, by rw [decide_eq_false h]; exact q⟩
theorem g_notN0 (q : Q (.bl false) H) : rgNotN .non .non H Q := ⟨rfl, q⟩
theorem g_notN1 (q : Q (.bl true) H) (h : x ≠ .non) : rgNotN x .non H Q := ⟨rfl, by rw [decide_eq_false h]; exact q⟩
theorem g_lenL (q : Q (.int xs.length) H) (h : SqL K H a xs) : rgLen K [.ref a] H Q := ⟨_, xs.length, rfl, .inl ⟨xs, h, rfl⟩, q⟩
theorem g_lenT (q : Q (.int xs.length) H) (h : SqT K H a xs) : rgLen K [.ref a] H Q := ⟨_, xs.length, rfl, .inr ⟨xs, h, rfl⟩, q⟩
theorem g_lenS {z : Str} (q : Q (.int z.length) H) (h : z.length ≤ sizeLine) : rgLen K [.str z] H Q := ⟨_, z.length, rfl, ⟨h, rfl⟩, q⟩
theorem g_abs (q : Q (.int (if i < 0 then -i else i)) H) : rgAbs [.int i] H Q := ⟨i, rfl, q⟩
theorem g_int (q : Q (.int i) H) : rgInt [.int i] H Q := .inl ⟨i, rfl, q⟩
theorem g_intB (q : Q (.int (if b then 1 else 0)) H) : rgInt [.bl b] H Q := .inr ⟨b, rfl, q⟩
theorem g_str (q : Q (.str (toString i)) H) (h : i.natAbs.log2 < 1920) : rgStr [.int i] H Q := ⟨i, rfl, h, q⟩
theorem g_gcd {n m : Int} (q : Q (.int (Int.gcd n m : Nat)) H) : rGcd [.int n, .int m] H Q := ⟨n, m, rfl, q⟩
theorem g_addS {y z : Str} (q : Q (.str (y ++ z)) H) (h : y.length + z.length ≤ sizeLine) : rgAddS (.str y) (.str z) H Q := ⟨y, z, rfl, rfl, h, q⟩
theorem g_inS {c : Nat} {z : Str} (q : Q (.bl (decide (c ∈ z.cps.toList))) H) : rgInS (.str ⟨#[c]⟩) (.str z) H Q := ⟨c, z, rfl, rfl, q⟩
theorem g_ixL (q : Q v H) (h : SqL K H a xs) (e : atI xs i = some v) : rIx K (.ref a) (.int i) H Q := .inl ⟨a, xs, i, v, rfl, rfl, h, e, q⟩
theorem g_ixT (q : Q v H) (h : SqT K H a xs) (e : atI xs i = some v) : rIx K (.ref a) (.int i) H Q := .inr (.inl ⟨a, xs, i, v, rfl, rfl, h, e, q⟩)
theorem g_ixS {z : Str} {c : Nat} (q : Q (.str ⟨#[c]⟩) H) (h : z.length ≤ sizeLine) (e : atI z.cps.toList i = some c) : rIx K (.str z) (.int i) H Q := .inr (.inr ⟨z, i, c, rfl, rfl, h, e, q⟩)
theorem g_all {bs : List Bool} (q : Q (.bl (bs.all id)) H) (h : SqL K H a (bs.map V.bl)) : rAll K [.ref a] H Q := ⟨a, bs, rfl, h, q⟩
/-! isinstance -/
variable {T : String}
theorem g_isi {t : Value} (q : Q (.bl b) H) (ht : TyX K H x t) (hb : PySem.W.kitOne K t (.type T) = some b) : rgIsi K [x, .ty T] H Q := ⟨x, .ty T, t, .type T, b, rfl, .ty T, ht, hb, q⟩
theorem g_isi_t (q : Q (.bl b) H) (ht : SqT K H a xs) (hb : kitB "tuple" T = some b) : rgIsi K [.ref a, .ty T] H Q := by
  have mk : ∀ {t : Value}, TyX K H (.ref a) t → t = .type "tuple" → rgIsi K [.ref a, .ty T] H Q := fun h e => by
    subst e
    exact g_isi q h (kit_ty hb)
  rcases ht with (h | ⟨o, h⟩) | ⟨o, its, n, hk, hc, hd, hs, hr⟩
  · exact mk (TyX.base (.tup h)) rfl
  · exact mk (TyX.fTuple h) rfl
  · exact mk (TyX.kTuple hk hc) rfl
theorem g_isi_l (q : Q (.bl b) H) (ht : SqL K H a xs) (hb : kitB "list" T = some b) (hl : H a = some (.lst xs)) : rgIsi K [.ref a, .ty T] H Q := g_isi q (TyX.base (.lst hl)) (kit_ty hb)
end
theorem kit_int_list : kitB "int" "list" = some false := by decide +kernel
theorem kit_int_tuple : kitB "int" "tuple" = some false := by decide +kernel
theorem kit_int_bool : kitB "int" "bool" = some false := by decide +kernel
theorem kit_int_str : kitB "int" "str" = some false := by decide +kernel
theorem kit_int_int : kitB "int" "int" = some true := by decide +kernel
theorem kit_str_list : kitB "str" "list" = some false := by decide +kernel
theorem kit_str_tuple : kitB "str" "tuple" = some false := by decide +kernel
theorem kit_str_bool : kitB "str" "bool" = some false := by decide +kernel
theorem kit_str_str : kitB "str" "str" = some true := by decide +kernel
theorem kit_str_int : kitB "str" "int" = some false := by decide +kernel
theorem kit_bool_list : kitB "bool" "list" = some false := by decide +kernel
theorem kit_bool_tuple : kitB "bool" "tuple" = some false := by decide +kernel
theorem kit_bool_bool : kitB "bool" "bool" = some true := by decide +kernel
theorem kit_bool_str : kitB "bool" "str" = some false := by decide +kernel
theorem kit_bool_int : kitB "bool" "int" = some true := by decide +kernel
theorem kit_NoneType_list : kitB "NoneType" "list" = some false := by decide +kernel
theorem kit_NoneType_tuple : kitB "NoneType" "tuple" = some false := by decide +kernel
theorem kit_NoneType_bool : kitB "NoneType" "bool" = some false := by decide +kernel
theorem kit_NoneType_str : kitB "NoneType" "str" = some false := by decide +kernel
theorem kit_NoneType_int : kitB "NoneType" "int" = some false := by decide +kernel
theorem kit_list_list : kitB "list" "list" = some true := by decide +kernel
theorem kit_list_tuple : kitB "list" "tuple" = some false := by decide +kernel
theorem kit_list_bool : kitB "list" "bool" = some false := by decide +kernel
theorem kit_list_str : kitB "list" "str" = some false := by decide +kernel
theorem kit_list_int : kitB "list" "int" = some false := by decide +kernel
theorem kit_tuple_list : kitB "tuple" "list" = some false := by decide +kernel
theorem kit_tuple_tuple : kitB "tuple" "tuple" = some true := by decide +kernel
theorem kit_tuple_bool : kitB "tuple" "bool" = some false := by decide +kernel
theorem kit_tuple_str : kitB "tuple" "str" = some false := by decide +kernel
theorem kit_tuple_int : kitB "tuple" "int" = some false := by decide +kernel
section
variable {H : Hp} {Q : VK} {K : Fg} {T : String} {b : Bool}
theorem g_isi_int {i : Int} (q : Q (.bl b) H) (hb : kitB "int" T = some b) : rgIsi K [.int i, .ty T] H Q := g_isi q (TyX.base (.int i)) (kit_ty hb)
theorem g_isi_str {z : Str} (q : Q (.bl b) H) (hb : kitB "str" T = some b) : rgIsi K [.str z, .ty T] H Q := g_isi q (TyX.base (.str z)) (kit_ty hb)
theorem g_isi_bl {c : Bool} (q : Q (.bl b) H) (hb : kitB "bool" T = some b) : rgIsi K [.bl c, .ty T] H Q := g_isi q (TyX.base (.bl c)) (kit_ty hb)
theorem g_isi_non (q : Q (.bl b) H) (hb : kitB "NoneType" T = some b) : rgIsi K [.non, .ty T] H Q := g_isi q (TyX.base .non) (kit_ty hb)
end
end Ko

/-! Values by what they are: data -/
namespace Ko
open PySem L2 PySem.Spec PyProof.Rows Xm
inductive Dt where
  | non | bl (b : Bool) | int (i : Int) | str (x : Str) | lst (l : List Dt) | tup (l : List Dt)
mutual
inductive Dq (H : Hp) : V → Dt → Prop where
  | non : Dq H .non .non
  | bl (b : Bool) : Dq H (.bl b) (.bl b)
  | int (i : Int) : Dq H (.int i) (.int i)
  | str (x : Str) : Dq H (.str x) (.str x)
  | lst {a : Addr} {xs : List V} {ds : List Dt} : H a = some (.lst xs) → DqAll H xs ds → Dq H (.ref a) (.lst ds)
  | tup {a : Addr} {xs : List V} {ds : List Dt} : H a = some (.tup xs) → DqAll H xs ds → Dq H (.ref a) (.tup ds)
inductive DqAll (H : Hp) : List V → List Dt → Prop where
  | nil : DqAll H [] []
  | cons {v : V} {vs : List V} {d : Dt} {ds : List Dt} : Dq H v d → DqAll H vs ds → DqAll H (v :: vs) (d :: ds)
end
mutual
theorem Dq.same {H H' : Hp} (s : Same H H') : ∀ {v : V} {d : Dt}, Dq H v d → Dq H' v d
  | _, _, .non => .non
  | _, _, .bl b => .bl b
  | _, _, .int i => .int i
  | _, _, .str x => .str x
  | _, _, .lst h r => .lst (s _ _ h) (DqAll.same s r)
  | _, _, .tup h r => .tup (s _ _ h) (DqAll.same s r)
theorem DqAll.same {H H' : Hp} (s : Same H H') : ∀ {vs : List V} {ds : List Dt}, DqAll H vs ds → DqAll H' vs ds
  | _, _, .nil => .nil
  | _, _, .cons h r => .cons (Dq.same s h) (DqAll.same s r)
end
theorem DqAll.length {H : Hp} : ∀ {vs : List V} {ds : List Dt}, DqAll H vs ds → vs.length = ds.length
  | _, _, .nil => rfl
  | _, _, .cons _ r => by rw [List.length_cons, List.length_cons, DqAll.length r]
theorem DqAll.at {H : Hp} : ∀ {vs : List V} {ds : List Dt} {i : Nat} {v : V}, DqAll H vs ds → vs[i]? = some v → ∃ d, ds[i]? = some d ∧ Dq H v d
  | _, _, _, _, .nil, h => by simp at h
  | _, _, 0, _, .cons q r, h => by
    simp only [List.getElem?_cons_zero] at h ⊢
    cases h
    exact ⟨_, rfl, q⟩
  | _, _, i + 1, _, .cons q r, h => by
    simp only [List.getElem?_cons_succ] at h ⊢
    exact DqAll.at r h
theorem DqAll.app {H : Hp} : ∀ {vs ws : List V} {ds es : List Dt}, DqAll H vs ds → DqAll H ws es → DqAll H (vs ++ ws) (ds ++ es)
  | _, _, _, _, .nil, r => r
  | _, _, _, _, .cons q r, r2 => .cons q (DqAll.app r r2)
mutual
def Dt.py : Dt → PyData
  | .non => .none
  | .bl b => .bool b
  | .int i => .int i
  | .str x => .str x
  | .lst l => .list (Dt.pys l)
  | .tup l => .tuple (Dt.pys l)
def Dt.pys : List Dt → List PyData
  | [] => []
  | d :: l => Dt.py d :: Dt.pys l
end
mutual
theorem Dq.dp {K : Fg} {H : Hp} : ∀ {v : V} {d : Dt}, Dq H v d → Dp K H v d.py
  | _, _, .non => by rw [Dt.py]; exact .non
  | _, _, .bl b => by rw [Dt.py]; exact .bl b
  | _, _, .int i => by rw [Dt.py]; exact .int i
  | _, _, .str x => by rw [Dt.py]; exact .str x
  | _, _, .lst h r => by rw [Dt.py]; exact .lst (SqL.of h) (DqAll.dp r)
  | _, _, .tup h r => by rw [Dt.py]; exact .tup (SqT.of h) (DqAll.dp r)
theorem DqAll.dp {K : Fg} {H : Hp} : ∀ {vs : List V} {ds : List Dt}, DqAll H vs ds → DpAll K H vs (Dt.pys ds)
  | _, _, .nil => by rw [Dt.pys]; exact .nil
  | _, _, .cons h r => by rw [Dt.pys]; exact .cons (Dq.dp h) (DqAll.dp r)
end
/-- a pair of ints -/
abbrev Dt.pq (q : Pq) : Dt := .tup [.int q.1, .int q.2]
/-- a number's tuple at an address; a number -/
def Pr (H : Hp) (v : V) (q : Pq) : Prop := ∃ a, v = .ref a ∧ H a = some (.tup [.int q.1, .int q.2])
def Nm (H : Hp) (v : V) (q : Pq) : Prop := Pr H v q ∨ (v = .int q.1 ∧ q.2 = 1)
section
variable {H H' : Hp} {v : V} {q : Pq} {a : Addr}
theorem Pr.same (s : Same H H') (h : Pr H v q) : Pr H' v q := by
  obtain ⟨a, e, h⟩ := h
  exact ⟨a, e, s _ _ h⟩
theorem Nm.same (s : Same H H') (h : Nm H v q) : Nm H' v q := h.elim (fun h => .inl (h.same s)) .inr
theorem Nm.of (h : H a = some (.tup [.int q.1, .int q.2])) : Nm H (.ref a) q := .inl ⟨a, rfl, h⟩
theorem Nm.ofPr (h : Pr H v q) : Nm H v q := .inl h
theorem Pr.of (h : H a = some (.tup [.int q.1, .int q.2])) : Pr H (.ref a) q := ⟨a, rfl, h⟩
theorem Pr.dq (h : Pr H v q) : Dq H v (.pq q) := by
  obtain ⟨a, rfl, h⟩ := h
  exact .tup h (.cons (.int _) (.cons (.int _) .nil))
end
/-- sizes -/
def Sz (b : Nat) (q : Pq) : Prop := q.1.natAbs < 2 ^ b ∧ q.2.natAbs < 2 ^ b
theorem Sz.up {a b : Nat} {q : Pq} (h : Sz a q) (l : a ≤ b) : Sz b q :=
  ⟨Nat.lt_of_lt_of_le h.1 (Nat.pow_le_pow_right (by decide) l), Nat.lt_of_lt_of_le h.2 (Nat.pow_le_pow_right (by decide) l)⟩
abbrev Ret (H : Hp) (Q : VK) (q : Pq) : Prop := ∀ t H', Same H H' → H' t = some (.tup [.int q.1, .int q.2]) → Q (.ref t) H'
def Dt.isInt : Dt → Bool
  | .int _ => true
  | _ => false
def Dt.isFrac : Dt → Bool
  | .tup [a, b] => a.isInt && b.isInt
  | _ => false
def Dt.isNum : Dt → Bool
  | .int _ => true
  | .tup [.int n, .int d] => decide (0 < d) && decide (Int.gcd n d = 1)
  | _ => false
end Ko

/-! Comprehensions whose elements change nothing that stands -/
namespace Ko
open PySem L2 PySem.Spec PyProof.Rows Xm
theorem paired_mono {α β : Type} {F F' : α → β → Prop} (hm : ∀ a b, F a b → F' a b) {l : List α} {k : List β} (h : Paired F l k) : Paired F' l k := by
  induction h with
  | nil => exact .nil
  | cons h _ ih => exact .cons (hm _ _ h) ih
theorem g_yes {σ : Sg} {H : Hp} {R : Bool → Hp → Prop} (q : R true H) : tYes σ H R := q
/-- all but D stands -/
abbrev But (D : Addr) (H H' : Hp) : Prop := ∀ a o, a ≠ D → H a = some o → H' a = some o
theorem lcW {J : It} {n : Nat} {G : Hp → Prop} {Y : Nat → Hp → V → Hp → Prop} (w : Walk J n G Y) {g : TG} {tt : TT} {te : TE} {vs : List Nat} {σ : Sg} {H1 : Hp} {D : Addr} {Qd : Hp → Prop} (nD : H1 D = none)
    (p : Nat → Bool) (F : Hp → Nat → V → Prop) (hn : n ≤ 100000) (hG : ∀ H2, Same H1 H2 → G H2) (mono : ∀ H H' k y, But D H H' → F H k y → F H' k y)
    (he : ∀ k x H2 H2', k < n → Same H1 H2 → (∃ acc, H2 D = some (.lst acc)) → Y k H2 x H2' → ∀ (Kt : VK) (Kf : Hp → Prop), (∀ y H5, Same H2 H5 → p k = true → F H5 k y → Kt y H5) → (∀ H5, Same H2 H5 → p k = false → Kf H5) →
      g x (wipe σ vs) H2' fun σ2 H3 => wipe σ2 vs = wipe σ vs ∧ tt σ2 H3 fun b H4 => if b = true then te σ2 H4 Kt else Kf H4)
    (q : ∀ H' ys, Same H1 H' → H' D = some (.lst ys) → Paired (F H') ((List.range n).filter p) ys → Qd H') :
    ∃ W : Nat → Nat → Hp → Prop, (∃ m, W 0 m (upd H1 D (.lst []))) ∧ ∀ i m H, W i m H →
      (J.stop i H ∧ Qd H) ∨ (J.go i H ∧ ∃ Nx : Hp → Prop, (∀ H', Nx H' → ∃ m', m' < m ∧ W (i + 1) m' H') ∧ ∀ x H', J.yld i H x H' → g x (wipe σ vs) H' fun σ2 H2 => wipe σ2 vs = wipe σ vs ∧ tt σ2 H2 fun b H3 =>
        if b = true then te σ2 H3 fun y H4 => ∃ acc, H4 D = some (.lst acc) ∧ acc.length < sizeLine ∧ Nx (upd H4 D (.lst (acc ++ [y]))) else Nx H3) := by
  refine lc_it w (fun i H => ∃ ys, H D = some (.lst ys) ∧ Same H1 H ∧ Paired (F H) ((List.range i).filter p) ys) ⟨[], upd_same, same_new nD, by exact .nil⟩ (fun i H _ h => ?_) (fun i x H H' hi h y => ?_) (fun H h => ?_)
  · obtain ⟨ys, _, s, _⟩ := h
    exact hG H s
  · obtain ⟨ys, hD, s, pr⟩ := h
    have lenY : ys.length ≤ i := by
      rw [← pr.length]
      exact Nat.le_trans (List.length_filter_le ..) (by simp)
    refine he i x H H' hi s ⟨ys, hD⟩ y _ _ (fun y H5 s3 eb f => ?_) (fun H5 s2 eb => ?_)
    · have but : But D H5 (upd H5 D (.lst (ys ++ [y]))) := fun a o h e => by
        rw [upd_ne h]
        exact e
      refine ⟨ys, s3 _ _ hD, Nat.lt_of_lt_of_le (show ys.length < 100000 + 1 by omega) (by rw [sizeLine_eq]; decide), ys ++ [y], upd_same, fun a o e => ?_, ?_⟩
      · rw [upd_ne (ne_of_none e nD)]
        exact s3 _ _ (s _ _ e)
      · rw [List.range_succ, List.filter_append, List.filter_cons_of_pos (by exact eb), List.filter_nil]
        exact Paired.snoc (paired_mono (fun k v h => mono _ _ _ _ but (mono _ _ _ _ (fun a o _ e => s3 _ _ e) h)) pr) (mono _ _ _ _ but f)
    · refine ⟨ys, s2 _ _ hD, s.trans s2, ?_⟩
      rw [List.range_succ, List.filter_append, List.filter_cons_of_neg (by rw [eb]; decide), List.filter_nil, List.append_nil]
      exact paired_mono (fun k v h => mono _ _ _ _ (fun a o _ e => s2 _ _ e) h) pr
  · obtain ⟨ys, hD, s, pr⟩ := h
    exact q H ys s hD pr
/-- all of n elements, each by its place; nothing is left out -/
theorem lcA {J : It} {n : Nat} {G : Hp → Prop} {Y : Nat → Hp → V → Hp → Prop} (w : Walk J n G Y) {g : TG} {te : TE} {vs : List Nat} {σ : Sg} {H1 : Hp} {D : Addr} {Qd : Hp → Prop} (nD : H1 D = none)
    (F : Hp → Nat → V → Prop) (hn : n ≤ 100000) (hG : ∀ H2, Same H1 H2 → G H2) (mono : ∀ H H' k y, But D H H' → F H k y → F H' k y)
    (he : ∀ k x H2 H2', k < n → Same H1 H2 → (∃ acc, H2 D = some (.lst acc)) → Y k H2 x H2' → ∀ (Kt : VK), (∀ y H5, Same H2 H5 → F H5 k y → Kt y H5) →
      g x (wipe σ vs) H2' fun σ2 H3 => wipe σ2 vs = wipe σ vs ∧ te σ2 H3 Kt)
    (q : ∀ H' ys, Same H1 H' → H' D = some (.lst ys) → ys.length = n → (∀ k v, ys[k]? = some v → F H' k v) → Qd H')
    (gm : ∀ x σ H (R R' : Sg → Hp → Prop), (∀ b H', R b H' → R' b H') → g x σ H R → g x σ H R') :
    ∃ W : Nat → Nat → Hp → Prop, (∃ m, W 0 m (upd H1 D (.lst []))) ∧ ∀ i m H, W i m H →
      (J.stop i H ∧ Qd H) ∨ (J.go i H ∧ ∃ Nx : Hp → Prop, (∀ H', Nx H' → ∃ m', m' < m ∧ W (i + 1) m' H') ∧ ∀ x H', J.yld i H x H' → g x (wipe σ vs) H' fun σ2 H2 => wipe σ2 vs = wipe σ vs ∧ tYes σ2 H2 fun b H3 =>
        if b = true then te σ2 H3 fun y H4 => ∃ acc, H4 D = some (.lst acc) ∧ acc.length < sizeLine ∧ Nx (upd H4 D (.lst (acc ++ [y]))) else Nx H3) := by
  refine lcW w nD (fun _ => true) F hn hG mono (fun k x H2 H2' hk s hD y Kt Kf ht hf => ?_) (fun H' ys s hD pr => ?_)
  · refine gm _ _ _ _ _ (fun σ2 H3 z => ⟨z.1, show (if true = true then te σ2 H3 Kt else Kf H3) from iteT z.2⟩) (he k x H2 H2' hk s hD y Kt fun y H5 s5 f => ht y H5 s5 rfl f)
  · rw [List.filter_eq_self.mpr (fun _ _ => rfl)] at pr
    have hl := pr.length
    rw [List.length_range] at hl
    refine q H' ys s hD hl.symm fun k v hv => ?_
    have gen : ∀ {l : List Nat} {ys : List V}, Paired (F H') l ys → ∀ (k : Nat) (v : V), ys[k]? = some v → ∃ i, l[k]? = some i ∧ F H' i v := by
      intro l ys pr
      induction pr with
      | nil => intro k v h; simp at h
      | cons h _ ih =>
        intro k v hv
        cases k with
        | zero => simp at hv; subst hv; exact ⟨_, rfl, h⟩
        | succ k => exact ih k v (by simpa using hv)
    obtain ⟨i, e, f⟩ := gen pr k v hv
    have e2 := List.getElem?_range (n := n) (i := k) (by
      rcases Nat.lt_or_ge k n with c | c
      · exact c
      · rw [List.getElem?_eq_none (by simpa using c)] at e
        cases e)
    rw [e2] at e
    cases e
    exact f
/-- the elements by their places alone -/
theorem lcV {J : It} {n : Nat} {G : Hp → Prop} {Y : Nat → Hp → V → Hp → Prop} (w : Walk J n G Y) {g : TG} {te : TE} {vs : List Nat} {σ : Sg} {H1 : Hp} {D : Addr} {Qd : Hp → Prop} (nD : H1 D = none)
    (f : Nat → V) (hn : n ≤ 100000) (hG : ∀ H2, Same H1 H2 → G H2)
    (he : ∀ k x H2 H2', k < n → Same H1 H2 → Y k H2 x H2' → ∀ (Kt : VK), (∀ H5, Same H2 H5 → Kt (f k) H5) → g x (wipe σ vs) H2' fun σ2 H3 => wipe σ2 vs = wipe σ vs ∧ te σ2 H3 Kt)
    (q : ∀ H', Same H1 H' → H' D = some (.lst ((List.range n).map f)) → Qd H')
    (gm : ∀ x σ H (R R' : Sg → Hp → Prop), (∀ b H', R b H' → R' b H') → g x σ H R → g x σ H R') :
    ∃ W : Nat → Nat → Hp → Prop, (∃ m, W 0 m (upd H1 D (.lst []))) ∧ ∀ i m H, W i m H →
      (J.stop i H ∧ Qd H) ∨ (J.go i H ∧ ∃ Nx : Hp → Prop, (∀ H', Nx H' → ∃ m', m' < m ∧ W (i + 1) m' H') ∧ ∀ x H', J.yld i H x H' → g x (wipe σ vs) H' fun σ2 H2 => wipe σ2 vs = wipe σ vs ∧ tYes σ2 H2 fun b H3 =>
        if b = true then te σ2 H3 fun y H4 => ∃ acc, H4 D = some (.lst acc) ∧ acc.length < sizeLine ∧ Nx (upd H4 D (.lst (acc ++ [y]))) else Nx H3) := by
  refine lcA w nD (fun _ k y => y = f k) hn hG (fun _ _ _ _ _ h => h) (fun k x H2 H2' hk s hD y Kt ht => he k x H2 H2' hk s y Kt fun H5 s5 => ht _ H5 s5 rfl) (fun H' ys s hD hl hv => ?_) gm
  refine q H' s ?_
  rw [hD]
  have e : ys = (List.range n).map f := by
    refine List.ext_getElem? fun k => ?_
    rcases Nat.lt_or_ge k n with c | c
    · rw [List.getElem?_map, List.getElem?_range c]
      have hk : k < ys.length := by omega
      rw [List.getElem?_eq_getElem hk]
      exact congrArg some (hv k _ (List.getElem?_eq_getElem hk))
    · rw [List.getElem?_eq_none (by omega), List.getElem?_eq_none (by simpa using c)]
  rw [e]
theorem range_map {α β : Type} (f : α → β) (xs : List α) (d : β) : (List.range xs.length).map (fun k => (xs[k]?.map f).getD d) = xs.map f := by
  refine List.ext_getElem? fun k => ?_
  rw [List.getElem?_map, List.getElem?_map]
  rcases Nat.lt_or_ge k xs.length with c | c
  · rw [List.getElem?_range c, Option.map_some, List.getElem?_eq_getElem c]
    rfl
  · rw [List.getElem?_eq_none (by simpa using c), List.getElem?_eq_none c]
    rfl
theorem g_lc {wi : TI} {g : TG} {tt : TT} {te : TE} {vs : List Nat} {σ : Sg} {H : Hp} {Q : VK} (q : wi σ H fun J H1 => ∀ D, H1 D = none → ∃ W : Nat → Nat → Hp → Prop, (∃ m, W 0 m (upd H1 D (.lst []))) ∧ ∀ i m H, W i m H →
  (J.stop i H ∧ Q (.ref D) H) ∨ (J.go i H ∧ ∃ Nx : Hp → Prop, (∀ H', Nx H' → ∃ m', m' < m ∧ W (i + 1) m' H') ∧ ∀ x H', J.yld i H x H' → g x (wipe σ vs) H' fun σ2 H2 => wipe σ2 vs = wipe σ vs ∧ tt σ2 H2 fun b H3 =>
    if b = true then te σ2 H3 fun y H4 => ∃ acc, H4 D = some (.lst acc) ∧ acc.length < sizeLine ∧ Nx (upd H4 D (.lst (acc ++ [y]))) else Nx H3)) : tLc wi g tt te vs σ H Q := q
theorem g_wipe {i : Nat} {v : V} {σ : Sg} {H : Hp} {vs : List Nat} {R : Sg → Hp → Prop} (e : wipe (σ.set i (some v)) vs = wipe σ vs) (q : R (σ.set i (some v)) H) : gName i v σ H fun σ2 H2 => wipe σ2 vs = wipe σ vs ∧ R σ2 H2 := ⟨e, q⟩
theorem gm_name {i : Nat} : ∀ x (σ : Sg) (H : Hp) (R R' : Sg → Hp → Prop), (∀ b H', R b H' → R' b H') → gName i x σ H R → gName i x σ H R' := fun x σ H R R' h q => h _ _ q
end Ko

/-! more readings taken apart: texts, slices, loops -/
namespace Ko
open PySem L2 PySem.Spec PyProof.Rows Xm
section
variable {σ : Sg} {H : Hp} {Q : VK} {v x y : V} {i : Nat} {ta tb tc te to : TE} {K : Fg}
theorem g_chain {r r' : R2} (q : ta σ H fun x H1 => tb σ H1 fun y H2 => r x y H2 fun z H3 => ∃ k, z = .bl k ∧ (if k = true then tc σ H3 fun w' H4 => r' y w' H4 Q else Q (.bl false) H3)) : tChain r r' ta tb tc σ H Q := q
/-! slices -/
theorem g_sl {r : V → Option Int → Option Int → Hp → VK → Prop} {tl th : TO} (q : te σ H fun x H1 => tl σ H1 fun l H2 => th σ H2 fun u H3 => r x l u H3 Q) : tSl r te tl th σ H Q := q
theorem g_noPart {R : Option Int → Hp → Prop} (q : R none H) : tNoPart σ H R := q
theorem g_part {R : Option Int → Hp → Prop} (q : te σ H fun x H1 => ∃ i, x = .int i ∧ R (some i) H1) : tPart te σ H R := q
theorem g_partI {j : Int} {f : Int → Prop} (q : f j) : ∃ i, V.int j = .int i ∧ f i := ⟨j, rfl, q⟩
theorem g_slS {z : Str} {lo hi : Option Int} (q : Q (.str (cutS z lo hi)) H) (h : z.length ≤ sizeLine) : rSlS (.str z) lo hi H Q := ⟨z, rfl, h, q⟩
theorem g_slL {a : Addr} {xs : List V} {lo hi : Option Int} (h : SqL K H a xs) (q : ∀ p, H p = none → Q (.ref p) (upd H p (.lst (cutV xs lo hi)))) : rSlL K (.ref a) lo hi H Q := ⟨a, xs, rfl, h, q⟩
/-! texts' methods -/
def rgSplit : V → List V → Hp → VK → Prop := fun x xs H Q => ∃ a b, x = .str a ∧ xs = [.str b] ∧ (b.length == 0) = false ∧ a.length + 2 ≤ sizeLine ∧ rNewStrs (Txt.split a b) H Q
def rgStarts : V → List V → Hp → VK → Prop := fun x xs H Q => ∃ a b, x = .str a ∧ xs = [.str b] ∧ Q (.bl (Txt.startswith a b)) H
def rgJoin (K : Fg) : V → List V → Hp → VK → Prop := fun x xs H Q => ∃ a p, ∃ ys : List Str, x = .str a ∧ xs = [.ref p] ∧ (SqL K H p (ys.map V.str) ∨ SqT K H p (ys.map V.str)) ∧ (ys.map (·.length)).sum + ys.length * a.length ≤ 16777216 ∧ Q (.str (Txt.join a ys)) H
theorem g_M1 {r : V → List V → Hp → VK → Prop} (q : to σ H fun x H1 => (∃ a, x = .str a) ∧ te σ H1 fun y H2 => r x [y] H2 Q) : tM1 r to te σ H Q := q
theorem g_M1s {z : Str} {P : Prop} (q : P) : (∃ a, V.str z = .str a) ∧ P := ⟨⟨z, rfl⟩, q⟩
theorem g_split {a b : Str} (q : ∀ p, H p = none → Q (.ref p) (upd H p (.lst ((Txt.split a b).map V.str)))) (hb : (b.length == 0) = false) (ha : a.length + 2 ≤ sizeLine) : rgSplit (.str a) [.str b] H Q := ⟨a, b, rfl, rfl, hb, ha, q⟩
theorem g_starts {a b : Str} (q : Q (.bl (Txt.startswith a b)) H) : rgStarts (.str a) [.str b] H Q := ⟨a, b, rfl, rfl, q⟩
theorem g_join {a : Str} {p : Addr} {ys : List Str} (q : Q (.str (Txt.join a ys)) H) (h : SqL K H p (ys.map V.str)) (hs : (ys.map (·.length)).sum + ys.length * a.length ≤ 16777216) : rgJoin K (.str a) [.ref p] H Q := ⟨a, p, ys, rfl, rfl, .inl h, hs, q⟩
theorem g_bm {T : String} {r : V → List V → Hp → VK → Prop} {t : TA} (q : to σ H fun x H1 => tyV K T x H1 ∧ t σ H1 fun xs H2 => r x xs H2 Q) : tBM K T r to t σ H Q := q
theorem g_bm0 {T : String} {r : V → List V → Hp → VK → Prop} (q : to σ H fun x H1 => tyV K T x H1 ∧ r x [] H1 Q) : tBM0 K T r to σ H Q := q
theorem g_tyL {a : Addr} {xs : List V} {P : Prop} (q : P) (h : SqL K H a xs) : tyV K "list" (.ref a) H ∧ P := ⟨.inl ⟨rfl, xs, h⟩, q⟩
theorem g_tyS {z : Str} {P : Prop} (q : P) : tyV K "str" (.str z) H ∧ P := ⟨rfl, q⟩
theorem g_append {a : Addr} {xs : List V} (q : Q .non (upd H a (.lst (xs ++ [y])))) (h : H a = some (.lst xs)) (hl : xs.length < sizeLine) : rAppend (.ref a) [y] H Q := ⟨a, xs, y, rfl, rfl, h, hl, q⟩
def rgInsert : V → List V → Hp → VK → Prop := fun x vs H Q => ∃ (l : Addr) (xs : List V) (i : Int) (y : V), x = .ref l ∧ vs = [.int i, y] ∧ H l = some (.lst xs) ∧ xs.length < sizeLine ∧ 0 ≤ i ∧ i < 2 ^ 63 ∧ Q .non (upd H l (.lst (xs.take i.toNat ++ [y] ++ xs.drop i.toNat)))
def rgZfill : V → List V → Hp → VK → Prop := fun x xs H Q => ∃ (a : Str) (i : Int), x = .str a ∧ xs = [.int i] ∧ PadOk i = true ∧ Q (.str (Txt.zfill a i)) H
/-! int of a text -/
def rgIntS : List V → Hp → VK → Prop := fun xs H Q => ∃ a n, xs = [.str a] ∧ PySem.intText? a = some n ∧ a.length ≤ 640 ∧ Q (.int n) H
theorem cg_intS {X : Cx} : CallR X (.type "int") rgIntS := call_int_str
theorem g_intS {a : Str} {n : Int} (q : Q (.int n) H) (h : PySem.intText? a = some n) (hl : a.length ≤ 640) : rgIntS [.str a] H Q := ⟨a, n, rfl, h, hl, q⟩
/-! f-strings -/
def tFs (ts : List TE) : TE := fun σ H Q => tJs ts Str.empty σ H fun out H1 => Q (.str out) H1
theorem g_Fs {ts : List TE} (q : tJs ts Str.empty σ H fun out H1 => Q (.str out) H1) : tFs ts σ H Q := q
theorem g_JsN {acc : Str} {R : Str → Hp → Prop} (q : R acc H) : tJs [] acc σ H R := q
theorem g_JsC {t : TE} {ts : List TE} {acc : Str} {R : Str → Hp → Prop} (q : t σ H fun x H1 => ∃ y : Str, x = .str y ∧ (acc ++ y).length ≤ sizeLine ∧ tJs ts (acc ++ y) σ H1 R) : tJs (t :: ts) acc σ H R := q
theorem g_JsE {acc z : Str} {ts : List TE} {R : Str → Hp → Prop} (q : tJs ts (acc ++ z) σ H R) (h : (acc ++ z).length ≤ sizeLine) : ∃ y : Str, V.str z = .str y ∧ (acc ++ y).length ≤ sizeLine ∧ tJs ts (acc ++ y) σ H R := ⟨z, rfl, h, q⟩
def rFmt : V → Hp → VK → Prop := fun x H1 Q => (∃ y : Str, x = .str y ∧ y.length ≤ sizeLine ∧ Q (.str y) H1) ∨ ∃ i : Int, x = .int i ∧ i.natAbs.log2 < 1920 ∧ Q (.str (toString i)) H1
theorem g_fmt (q : te σ H fun x H1 => rFmt x H1 Q) : tFmt te σ H Q := q
theorem g_fmtI {i : Int} (q : Q (.str (toString i)) H) (h : i.natAbs.log2 < 1920) : rFmt (.int i) H Q := .inr ⟨i, rfl, h, q⟩
theorem g_fmtS {z : Str} (q : Q (.str z) H) (h : z.length ≤ sizeLine) : rFmt (.str z) H Q := .inl ⟨z, rfl, h, q⟩
/-! comprehensions, walks -/
theorem g_iList {tl : TE} {R : It → Hp → Prop} (q : tl σ H fun x H1 => ∃ a, x = .ref a ∧ (∃ xs, SqL K H1 a xs) ∧ R (Itl K a) H1) : iList K tl σ H R := q
theorem g_iListE {a : Addr} {xs : List V} {f : Addr → Prop} (q : f a) (h : SqL K H a xs) : ∃ a', V.ref a = .ref a' ∧ (∃ xs, SqL K H a' xs) ∧ f a' := ⟨a, rfl, ⟨xs, h⟩, q⟩
theorem g_iTup {tl : TE} {R : It → Hp → Prop} (q : tl σ H fun x H1 => ∃ a, x = .ref a ∧ (∃ xs, SqT K H1 a xs) ∧ R (Itt K a) H1) : iTup K tl σ H R := q
theorem g_iTupE {a : Addr} {xs : List V} {f : Addr → Prop} (q : f a) (h : SqT K H a xs) : ∃ a', V.ref a = .ref a' ∧ (∃ xs, SqT K H a' xs) ∧ f a' := ⟨a, rfl, ⟨xs, h⟩, q⟩
theorem g_iStr {tl : TE} {R : It → Hp → Prop} (q : tl σ H fun v H1 => ∃ x, v = .str x ∧ R (Its x) H1) : iStr tl σ H R := q
theorem g_iStrE {z : Str} {f : Str → Prop} (q : f z) : ∃ x, V.str z = .str x ∧ f x := ⟨z, rfl, q⟩
theorem g_iRng1 {t : TA} {R : It → Hp → Prop} (q : t σ H fun vs H1 => ∃ j : Int, vs = [.int j] ∧ -(2 ^ 62) ≤ j ∧ j < 2 ^ 62 ∧ R (Itr 0 j.toNat) H1) : iRng1 t σ H R := q
theorem g_iRng1E {j : Int} {f : Int → Prop} (q : f j) (h1 : -(2 ^ 62) ≤ j) (h2 : j < 2 ^ 62) : ∃ i : Int, [V.int j] = [.int i] ∧ -(2 ^ 62) ≤ i ∧ i < 2 ^ 62 ∧ f i := ⟨j, rfl, h1, h2, q⟩
theorem atI_0 {α : Type} {x : α} {l : List α} : atI (x :: l) 0 = some x := by
  unfold atI ixN
  rw [if_pos (by omega), if_pos (by simp only [List.length_cons]; omega)]
  rfl
theorem atI_1 {α : Type} {x y : α} {l : List α} : atI (x :: y :: l) 1 = some y := by
  unfold atI ixN
  rw [if_pos (by omega), if_pos (by simp only [List.length_cons]; omega)]
  rfl
theorem atI_get {α : Type} {l : List α} {i : Nat} {x : α} (h : l[i]? = some x) : atI l (i : Int) = some x := atI_nat h
end
section
variable {X : Cx}
theorem pe_splitN {o e : Expr} {to te : TE} {apos pos : Pos} (ho : PE X o to) (he : PE X e te) (hs : starEach [e] X.env = [(false, eval e X.env)] := by rfl) (hbase : attributeBase o "split" X.env (eval o X.env) = eval o X.env := by rfl) (hline : (apos.endLine == pos.line) = true := by rfl) :
    PE X (.Call (.Attribute o "split" apos) [e] [] pos) (tM1 rgSplit to te) := pe_split ho he hs hbase hline
theorem pe_joinN {o e : Expr} {to te : TE} {apos pos : Pos} (ho : PE X o to) (he : PE X e te) (hs : starEach [e] X.env = [(false, eval e X.env)] := by rfl) (hbase : attributeBase o "join" X.env (eval o X.env) = eval o X.env := by rfl) (hline : (apos.endLine == pos.line) = true := by rfl) :
    PE X (.Call (.Attribute o "join" apos) [e] [] pos) (tM1 (rgJoin X.K) to te) := pe_join ho he hs hbase hline
theorem pe_startsN {o e : Expr} {to te : TE} {apos pos : Pos} (ho : PE X o to) (he : PE X e te) (hs : starEach [e] X.env = [(false, eval e X.env)] := by rfl) (hbase : attributeBase o "startswith" X.env (eval o X.env) = eval o X.env := by rfl) (hline : (apos.endLine == pos.line) = true := by rfl) :
    PE X (.Call (.Attribute o "startswith" apos) [e] [] pos) (tM1 rgStarts to te) := pe_m1 PySem.F.slot_str_startswith PySem.F.type_str_startswith mt_startswith ho he hs hbase hline
theorem pe_joinedN {v1 v2 : Expr} {rest : List Expr} {ts : List TE} {pos : Pos} (h : PJ X (v1 :: v2 :: rest) ts) : PE X (.JoinedStr (v1 :: v2 :: rest) pos) (tFs ts) := pe_joined h
theorem mg_insert : MtR X "list.insert" rgInsert := mt_insert
theorem mg_zfill : MtR X "str.zfill" rgZfill := mt_zfill
end
end Ko

/-! The text of a number: mathematics -/
namespace Xm
open PySem TL
def dig (c : Nat) : Bool := decide (48 ≤ c) && decide (c ≤ 57)
def hasDig (l : List Nat) : Bool := decide (1 ≤ l.length) && (decide (l.length ≤ 60) && (!(l.head? == some 48 && decide (1 < l.length)) && l.all dig))
abbrev val (l : List Nat) : Nat := NumText.digitsVal l
def sgn (neg : Bool) (n : Nat) : Int := if neg then -(n : Int) else n
def readW (neg : Bool) : List (List Nat) → Option Pq
  | [w] => if hasDig w then (if neg && decide (val w = 0) then none else some (sgn neg (val w), 1)) else none
  | [w, z] => if hasDig w && hasDig z then (if neg && decide (val w = 0) then none else if decide (val z < 2) || decide (1 < Nat.gcd (val w) (val z)) then none else some (sgn neg (val w), val z)) else none
  | _ => none
def readL (l : List Nat) : Option Pq := if l.head? = some 45 then readW true (spl [47] 0 [] (l.drop 1)) else readW false (spl [47] 0 [] l)
theorem tl_dash : tl ("-" : Str) = [45] := by decide +kernel
theorem tl_slash : tl ("/" : Str) = [47] := by decide +kernel
theorem tl_zero : tl ("0" : Str) = [48] := by decide +kernel
theorem starts_dash (x : Str) : Txt.startswith x "-" = decide ((tl x).head? = some 45) := by
  have h := at_iff (x := x) (y := "-") (by rw [tl_dash]; simp) 0
  rw [List.drop_zero, tl_dash] at h
  have e : Txt.startswith x "-" = true ↔ pre [45] (tl x) = true := by
    rw [← h]
    unfold Txt.startswith
    rw [Bool.and_eq_true, decide_eq_true_eq]
    exact Iff.rfl
  have e2 : pre [45] (tl x) = true ↔ (tl x).head? = some 45 := by
    unfold pre
    cases tl x with
    | nil => simp
    | cons c r => simp
  cases c : Txt.startswith x "-" with
  | true => exact (decide_eq_true (e2.mp (e.mp c))).symm
  | false =>
    refine (decide_eq_false fun z => ?_).symm
    rw [e.mpr (e2.mpr z)] at c
    cases c
theorem cut_one (x : Str) : tl (L2.cutS x (some 1) none) = (tl x).drop 1 := by
  unfold L2.cutS
  rw [tl_mk]
  have hl := len_tl x
  have e1 : HT.sIx x.length 0 (some 1) = min 1 x.length := by
    unfold HT.sIx
    simp
    try omega
  have e2 : HT.sIx x.length x.length none = x.length := rfl
  rw [e1, e2]
  show ((tl x).drop (min 1 x.length)).take (x.length - min 1 x.length) = _
  cases h : tl x with
  | nil => simp
  | cons c r =>
    rw [h] at hl
    simp only [List.length_cons] at hl
    have e3 : min 1 x.length = 1 := by omega
    rw [e3, hl]
    simp
theorem split_ws (x : Str) : (Txt.split x "/").map tl = spl [47] 0 [] (tl x) := by
  have h := split_spl x "/" (by rw [tl_slash]; simp) (kind_ok (by decide +kernel))
  rw [tl_slash] at h
  exact h
theorem in_digits (c : Nat) : decide (c ∈ ("0123456789" : Str).cps.toList) = dig c := by
  have e : ("0123456789" : Str).cps.toList = [48, 49, 50, 51, 52, 53, 54, 55, 56, 57] := by decide +kernel
  rw [e]
  unfold dig
  by_cases h : 48 ≤ c ∧ c ≤ 57
  · have : c = 48 ∨ c = 49 ∨ c = 50 ∨ c = 51 ∨ c = 52 ∨ c = 53 ∨ c = 54 ∨ c = 55 ∨ c = 56 ∨ c = 57 := by omega
    rcases this with rfl | rfl | rfl | rfl | rfl | rfl | rfl | rfl | rfl | rfl <;> rfl
  · rw [decide_eq_false (show ¬ c ∈ [48, 49, 50, 51, 52, 53, 54, 55, 56, 57] by simp; omega)]
    symm
    rw [Bool.and_eq_false_iff, decide_eq_false_iff_not, decide_eq_false_iff_not]
    omega
theorem hasDig_int {x : Str} (h : hasDig (tl x) = true) : intText? x = some ((val (tl x) : Nat) : Int) := by
  unfold hasDig at h
  simp only [Bool.and_eq_true, decide_eq_true_eq] at h
  obtain ⟨h1, h2, _, h4⟩ := h
  refine PySem.intText_digits (fun c hc => ?_) (fun e => ?_) (by rw [len_tl]; omega)
  · have := List.all_eq_true.mp h4 c hc
    unfold dig at this
    simp only [Bool.and_eq_true, decide_eq_true_eq] at this
    exact this
  · rw [show tl x = [] from e] at h1
    simp at h1
theorem spl_ne (S : List Nat) : ∀ (l : List Nat) (k : Nat) (acc : List Nat), spl S k acc l ≠ []
  | [], _, acc => by unfold spl; simp
  | c :: r, 0, acc => by
    unfold spl
    split
    · simp
    · exact spl_ne S r 0 _
  | c :: r, k + 1, acc => by
    unfold spl
    exact spl_ne S r k acc
theorem spl_len (S : List Nat) : ∀ (l : List Nat) (k : Nat) (acc : List Nat), ∀ w ∈ spl S k acc l, w.length ≤ acc.length + l.length
  | [], _, acc, w, h => by
    unfold spl at h
    rw [List.mem_singleton.mp h]
    simp
  | c :: r, 0, acc, w, h => by
    unfold spl at h
    split at h
    · rcases List.mem_cons.mp h with e | e
      · rw [e]
        simp
      · have := spl_len S r _ [] w e
        simp only [List.length_nil, List.length_cons] at *
        omega
    · have := spl_len S r 0 _ w h
      simp only [List.length_append, List.length_cons, List.length_nil] at *
      omega
  | c :: r, k + 1, acc, w, h => by
    unfold spl at h
    have := spl_len S r k acc w h
    simp only [List.length_cons] at *
    omega
theorem split_ne (x : Str) : Txt.split x "/" ≠ [] := fun e => by
  have h := split_ws x
  rw [e] at h
  exact spl_ne _ _ _ _ h.symm
theorem split_len {x w : Str} (h : w ∈ Txt.split x "/") : w.length ≤ x.length := by
  have h2 : tl w ∈ spl [47] 0 [] (tl x) := by
    rw [← split_ws x]
    exact List.mem_map_of_mem h
  have := spl_len _ _ _ _ _ h2
  rw [len_tl, len_tl]
  simpa using this
theorem hasDig_len {x : Str} (h : hasDig (tl x) = true) : x.length ≤ 60 := by
  unfold hasDig at h
  simp only [Bool.and_eq_true, decide_eq_true_eq] at h
  rw [len_tl]
  exact h.2.1
end Xm

/-! max(list of ints, default=d) -/
namespace PySem
namespace KoM
open Sem (wp)
section
variable {pg : Program} {wd : World} {B : Around} {Rz : Result → Shared → Prop} {it : Addr} {ft mt : List Addr} {m : Nat} {Pz : Nat → Value → Prop} {Sz : Nat → Heap → Prop} {d : Value}
abbrev keep2 (mt : List Addr) (L : Addr) (s : Shared) (h2 : Heap) : Prop := ∀ b o, b ∉ mt → b ≠ L → s.heap.get? b = some o → h2.get? b = some o
abbrev cellL (L : Addr) (x : Array Value) (c : Nat) (h : Heap) : Prop := h.get? L = some { cls := .type "list", dict := none, data := .seq x c, slots := #[] }
theorem nm : (toString "max" ++ toString ".loop" : String) = "max.loop" := by decide
theorem turns (W : Walks pg wd B.in1 it ft mt m Pz Sz) (gt : Nat → Nat → Bool) (hc : CmpOf pg wd B.in1 .Gt Pz gt) (L : Addr) (nL : L ∉ ft) :
    ∀ (k j : Nat) (s : Shared) (best : Value) (c : Nat), m - (j + 1) = k → j + 1 ≤ m → Sz (j + 1) s.heap → Pz (argBest gt j) best → cellL L #[best, best] c s.heap →
    (∀ v h2 tk, Pz (argBest gt (m - 1)) v → keep2 mt L s h2 → Rz (.ok (.ret v)) { s with heap := h2, toks := tk }) →
    codeAny (model pg wd) B (.builtin "max.loop" ⟨[.ref it, .none, .ref L], [("default", d)]⟩) Rz s := by
  have nW : L ∉ mt := fun z => nL (W.sub _ z)
  intro k
  induction k with
  | zero =>
    intro j s best c e1 e2 st hb hL fin
    have last : j + 1 = m := by omega
    refine codeAny_builtin F.entry_max_loop ?_
    rw [Around.under_plainId F.plain_max_loop _]
    show wpAny _ B.in1 (seqItems? (.ref L) >>= _) _ _ s
    refine wpAny_bind (wpAny_seqItems hL rfl ?_)
    show wpAny _ B.in1 (tryCatch (pyNext (.ref it)) _ >>= _) _ _ s
    refine wpAny_bind (wpAny_tryCatch (W.done s _ _ (last ▸ st) fun h1 tk k1 => ?_))
    have hL1 := k1 L _ nW hL
    show wpAny _ B.in1 (updateSeq L (fun _ => #[]) >>= _) _ _ _
    refine wpAny_bind ?_
    refine wpAny_updateSeq hL1 rfl (wpAny_bind (wpAny_letGo (wpAny_pure ?_)))
    exact fin best _ tk (by rw [← last]; exact hb) fun b o n1 n2 e => (Heap.get?_update_other _ _ (Ne.symm n2)).trans (k1 b o n1 e)
  | succ k ih =>
    intro j s best c e1 e2 st hb hL fin
    have lt : j + 1 < m := by omega
    refine codeAny_builtin F.entry_max_loop ?_
    rw [Around.under_plainId F.plain_max_loop _]
    show wpAny _ B.in1 (seqItems? (.ref L) >>= _) _ _ s
    refine wpAny_bind (wpAny_seqItems hL rfl ?_)
    show wpAny _ B.in1 (tryCatch (pyNext (.ref it)) _ >>= _) _ _ s
    refine wpAny_bind (wpAny_tryCatch (W.item (j + 1) s _ _ lt st fun v h1 tk hv st1 k1 => ?_))
    have hL1 := k1 L _ nW hL
    show wpAny _ B.in1 (tryCatch (holding [v, v] (richCompare .Gt v best >>= _)) _ >>= _) _ _ _
    refine wpAny_bind (wpAny_tryCatch (wpAny_holding (wpAny_bind (hc (j + 1) (argBest gt j) v best _ _ _ hv hb ?_))))
    refine wpAny_bind (wpAny_holding (wpAny_truthy_bool ?_))
    refine wpAny_bind (wpAny_letGo (wpAny_pure ?_))
    cases g : gt (j + 1) (argBest gt j) with
    | true =>
      have ab : argBest gt (j + 1) = j + 1 := by
        simp only [argBest, g, if_true]
      simp only [if_true]
      refine wpAny_bind ?_
      refine wpAny_updateSeq hL1 rfl (wpAny_bind (wpAny_letGo ?_))
      rw [nm]
      refine wpAny_pure ⟨plainId_quiet F.plain_max_loop _, ?_⟩
      refine ih (j + 1) _ v _ (by omega) lt (W.frame _ _ _ st1 fun b hbf o e => ?_) (by rw [ab]; exact hv) (Heap.get?_update_self _ hL1 rfl) fun v2 h3 tk3 hp k3 => ?_
      · exact (Heap.get?_update_other _ _ (fun z : L = b => nL (by rw [z]; exact hbf))).trans e
      · exact fin v2 h3 tk3 hp fun b o n1 n2 e => k3 b o n1 n2 ((Heap.get?_update_other _ _ (Ne.symm n2)).trans (k1 b o n1 e))
    | false =>
      have ab : argBest gt (j + 1) = argBest gt j := by
        simp only [argBest, g, Bool.false_eq_true, if_false]
      simp only [Bool.false_eq_true, if_false]
      refine wpAny_bind (wpAny_letGo ?_)
      rw [nm]
      refine wpAny_pure ⟨plainId_quiet F.plain_max_loop _, ?_⟩
      refine ih (j + 1) _ best c (by omega) lt st1 (by rw [ab]; exact hb) hL1 fun v2 h3 tk3 hp k3 => ?_
      exact fin v2 h3 tk3 hp fun b o n1 n2 e => k3 b o n1 n2 (k1 b o n1 e)
theorem turn0 (W : Walks pg wd B.in1 it ft mt m Pz Sz) (gt : Nat → Nat → Bool) (hc : CmpOf pg wd B.in1 .Gt Pz gt) (L : Addr) (nL : L ∉ ft) (pos : 0 < m) {s : Shared} {c : Nat} (st : Sz 0 s.heap) (hL : cellL L #[] c s.heap)
    (fin : ∀ v h2 tk, Pz (argBest gt (m - 1)) v → keep2 mt L s h2 → Rz (.ok (.ret v)) { s with heap := h2, toks := tk }) :
    codeAny (model pg wd) B (.builtin "max.loop" ⟨[.ref it, .none, .ref L], [("default", d)]⟩) Rz s := by
  have nW : L ∉ mt := fun z => nL (W.sub _ z)
  refine codeAny_builtin F.entry_max_loop ?_
  rw [Around.under_plainId F.plain_max_loop _]
  show wpAny _ B.in1 (seqItems? (.ref L) >>= _) _ _ s
  refine wpAny_bind (wpAny_seqItems hL rfl ?_)
  show wpAny _ B.in1 (tryCatch (pyNext (.ref it)) _ >>= _) _ _ s
  refine wpAny_bind (wpAny_tryCatch (W.item 0 s _ _ pos st fun v h1 tk hv st1 k1 => ?_))
  have hL1 := k1 L _ nW hL
  show wpAny _ B.in1 (updateSeq L (fun _ => #[v, v]) >>= _) _ _ _
  refine wpAny_bind ?_
  refine wpAny_updateSeq hL1 rfl ?_
  rw [nm]
  refine wpAny_pure ⟨plainId_quiet F.plain_max_loop _, ?_⟩
  refine turns W gt hc L nL _ 0 _ v _ rfl pos (W.frame _ _ _ st1 fun b hbf o e => ?_) hv (Heap.get?_update_self _ hL1 rfl) fun v2 h3 tk3 hp k3 => ?_
  · exact (Heap.get?_update_other _ _ (fun z : L = b => nL (by rw [z]; exact hbf))).trans e
  · exact fin v2 h3 tk3 hp fun b o n1 n2 e => k3 b o n1 n2 ((Heap.get?_update_other _ _ (Ne.symm n2)).trans (k1 b o n1 e))
/-- nothing in the list: the default -/
theorem none0 (W : Walks pg wd B.in1 it ft mt 0 Pz Sz) (L : Addr) {s : Shared} {c : Nat} (st : Sz 0 s.heap) (hL : cellL L #[] c s.heap)
    (fin : ∀ h2 tk, (∀ b o, b ∉ mt → s.heap.get? b = some o → h2.get? b = some o) → Rz (.ok (.ret d)) { s with heap := h2, toks := tk }) :
    codeAny (model pg wd) B (.builtin "max.loop" ⟨[.ref it, .none, .ref L], [("default", d)]⟩) Rz s := by
  refine codeAny_builtin F.entry_max_loop ?_
  rw [Around.under_plainId F.plain_max_loop _]
  show wpAny _ B.in1 (seqItems? (.ref L) >>= _) _ _ s
  refine wpAny_bind (wpAny_seqItems hL rfl ?_)
  show wpAny _ B.in1 (tryCatch (pyNext (.ref it)) _ >>= _) _ _ s
  refine wpAny_bind (wpAny_tryCatch (W.done s _ _ st fun h1 tk k1 => ?_))
  have z := fin h1 tk k1
  wp_walk
  exact z
end
theorem argsD (a v : Value) : argsOk "max" ⟨[a], [("default", v)]⟩ := by
  unfold argsOk
  kernel_rfl
section
variable {pg : Program} {wd : World} {B : Around} {E : Value → Shared → Prop} {s : Shared} {l : Addr} {xs : Array (Int × Tok)} {d : Value} {Q : Value → Shared → Prop}
theorem max_default (hh : B.handled = none) (hl : s.heap.IsList l (intItems xs))
    (h0 : xs.size = 0 → ∀ h2 tk, (∀ b o, s.heap.get? b = some o → h2.get? b = some o) → Q d { s with heap := h2, toks := tk })
    (h1 : 0 < xs.size → ∀ v h2 tk, (intItems xs)[argBest (fun i j => decide (numAt xs i > numAt xs j)) (xs.size - 1)]? = some v → (∀ b o, s.heap.get? b = some o → h2.get? b = some o) → Q v { s with heap := h2, toks := tk }) :
    wpAny (model pg wd) B (call (.builtin "max") [.ref l] [("default", d)]) Q E s := by
  refine PyProof.Rows.kmk_tree F.kind_max F.plain_max F.entry_max (argsD _ _) ?_
  show wpAny _ B.in1 (Builtin.Builtins.bindParams "max" ["key", "default"] 0 ⟨[], [("default", d)]⟩ >>= _) _ _ s
  refine wpAny_bind (wpAny_of_eq (show Builtin.Builtins.bindParams "max" ["key", "default"] 0 ⟨[], [("default", d)]⟩ = pure [none, some d] from rfl) ?_)
  refine wpAny_bind (wpAny_pure ?_)
  refine wpAny_bind (iter_intList hl fun s2 e st hfp hlI => ?_)
  refine wpAny_bind (wpAny_newObj_type ?_)
  have nL : s2.heap.objs.size ∉ [s.heap.objs.size, l] := fun hm => Nat.lt_irrefl _ (hfp _ hm)
  rw [nm]
  have W := Walks.list (prog := pg) (w := wd) (A := B.in1) hh s.heap.objs.size l hlI (intItems xs)
  have hn : (intItems xs).size = xs.size := by simp [intItems]
  have push : ∀ b o, s2.heap.get? b = some o → (s2.heap.push { cls := .type "list", data := .seq #[] }).get? b = some o := fun b o e => Heap.get?_push_of_some _ e
  refine wpAny_pure ⟨plainId_quiet F.plain_max_loop _, ?_⟩
  rcases Nat.eq_zero_or_pos xs.size with z | z
  · have W0 : Walks pg wd B.in1 s.heap.objs.size [s.heap.objs.size, l] [s.heap.objs.size] 0 _ _ := (hn.trans z) ▸ W
    refine none0 W0 s2.heap.objs.size (W0.frame _ _ _ st fun b _ o e => push b o e) (Heap.get?_push_size _ rfl) fun h2 tk k => ?_
    subst e
    exact h0 z h2 tk (old_kept fun b o n e => k b o n (push b o e))
  · refine turn0 W (fun i j => decide (numAt xs i > numAt xs j)) (CmpOf.ints_gt (numAt xs) fun _ _ => intItems_at) s2.heap.objs.size nL (by rw [hn]; exact z) (W.frame _ _ _ st fun b _ o e => push b o e) (Heap.get?_push_size _ rfl) fun v h2 tk hv k => ?_
    subst e
    rw [hn] at hv
    refine h1 z v h2 tk hv (old_kept fun b o n e => k b o n (Nat.ne_of_lt (Heap.lt_size e)) (push b o e))
end
end KoM
end PySem

namespace Ko
open PySem L2 PySem.Spec PyProof.Rows Xm
def rMaxD (K : Fg) : List V → List V → Hp → VK → Prop := fun vs zs H Q => ∃ (a : Addr) (ns : List Int) (d : V), vs = [.ref a] ∧ zs = [d] ∧ SqL K H a (ns.map V.int) ∧ (ns = [] → Q d H) ∧ (ns ≠ [] → ∀ m, m ∈ ns → (∀ y, y ∈ ns → y ≤ m) → Q (.int m) H)
theorem cr_maxD {X : Cx} (hc : X.calm = true) : CallRK X (.builtin "max") ["default"] (rMaxD X.K) := by
  intro pins s σ H vs zs us ws Q I r rz h
  obtain ⟨a, ns, d, rfl, rfl, hs, q0, q1⟩ := h
  obtain ⟨its, rv, hl, _⟩ := I.list hs
  rw [Vals.ref1 r]
  cases rz with
  | @cons _ u _ _ ru rr =>
    cases rr
    have hi := rv.ints
    obtain ⟨xs, e⟩ := hi.allInts.items
    have hn : numsOf (intItems xs).toList = ns := by rw [← e]; exact hi.numsOf
    rw [nums_intItems] at hn
    subst hn
    have hl' := hl.isList
    rw [e] at hl'
    show wpAny _ _ (call (.builtin "max") [.ref a] [("default", u)]) _ _ s
    refine KoM.max_default (I.ok.hd hc) hl' (fun z h2 tk k => ?_) (fun z v h2 tk hv k => ?_)
    · refine ⟨d, H, I.kept k, ru, q0 ?_⟩
      have : xs = #[] := Array.eq_empty_of_size_eq_zero z
      subst this
      rfl
    · obtain ⟨t, rfl⟩ := intItems_at hv
      obtain ⟨g1, g2⟩ := argBest_gt (numAt xs) (xs.size - 1)
      refine ⟨.int _, H, I.kept k, ⟨t, rfl⟩, q1 ?_ _ ?_ fun y hy => ?_⟩
      · intro z2
        have z3 := congrArg List.length z2
        rw [List.length_map, Array.length_toList, List.length_nil] at z3
        omega
      · rw [numAt_eq]
        exact PySem.getD_mem (by rw [List.length_map, Array.length_toList]; omega)
      · obtain ⟨j, hj, rfl⟩ := mem_getD hy
        rw [List.length_map, Array.length_toList] at hj
        rw [← numAt_eq]
        exact g2 j (by omega)
end Ko

/-! dict(zip(xs, ys)): keys that are ints and texts -/
namespace Ko
open PySem L2 PySem.Spec PyProof.Rows Xm
/-- the pairs of two lists -/
def tDictZip (K : Fg) (ta : TA) : TE := fun σ H Q => ta σ H fun vs H1 => ∃ (a b : Addr) (ks : List Key) (ys : List V), vs = [.ref a, .ref b] ∧ SqL K H1 a (ks.map kV) ∧ SqL K H1 b ys ∧ ks.length = ys.length ∧
  ∀ p, H1 p = none → Q (.ref p) (upd H1 p (.dK (mergeK [] (ks.zip ys))))
theorem kv_zip : ∀ {ks : List Key} {ys : List V} {us : List Value}, ks.length = ys.length → Vals ys us → KV (ks.zip ys) (ks.zip us)
  | [], [], _, _, .nil => .nil
  | _ :: _, _ :: _, _, h, .cons r t => .cons ⟨rfl, r⟩ (kv_zip (by simpa using h) t)
theorem keys_is (P : Program) (w : World) {ks : List Key} {us : List Value} (r : Vals (ks.map kV) us) : ∀ (i : Nat) (u : Value), us[i]? = some u → ∃ k, ks[i]? = some k ∧ keyIs k u = true := by
  induction ks generalizing us with
  | nil =>
    cases r
    intro i u h
    simp at h
  | cons k ks ih =>
    cases r with
    | cons r t =>
      intro i u h
      cases i with
      | zero =>
        simp at h
        subst h
        exact ⟨k, rfl, kV_is (P := P) (w := w) r⟩
      | succ i => exact ih t i u (by simpa using h)
theorem pe_dictZip {X : Cx} {e1 e2 : Expr} {ta : TA} {p1 p2 pos pos2 : Pos} (hc : X.calm = true) (g1 : Gl X "dict") (m1 : X.mg "dict" = none) (g2 : Gl X "zip") (m2 : X.mg "zip" = none) (ha : PA X [e1, e2] ta)
    (ns : starEach [.Call (.Name "zip" p2) [e1, e2] [] pos2] X.env = (false, eval (.Call (.Name "zip" p2) [e1, e2] [] pos2) X.env) :: starEach [] X.env := by rfl)
    (hs : starEach [e1, e2] X.env = (false, eval e1 X.env) :: starEach [e2] X.env := by rfl) (hpl : (backTo pos2 (starEach [e2] X.env)).any (·.1) = false := by rfl) :
    PE X (.Call (.Name "dict" p1) [.Call (.Name "zip" p2) [e1, e2] [] pos2] [] pos) (tDictZip X.K ta) := by
  refine ⟨fun pins s σ H Q I h => ?_⟩
  refine Call_ (ld_blt I g1 m1 PyProof.Rows.boot_dict (PyProof.Rows.callWith_type1 (args_cons ?_ ns) ns))
  refine Call_ (ld_blt I g2 m2 PyProof.Rows.boot_zip (PyProof.Rows.callWith_type1 (thn (ha.run pos2 pins s σ H _ I h) fun us s1 hq => ?_) hs hpl))
  obtain ⟨vs, H1, I1, r1, a, b, ks, ys, ex, hx, hy, hl, q⟩ := hq
  subst ex
  cases r1 with
  | @cons _ _ _ _ r rr =>
    cases rr with
    | @cons _ _ _ _ r' rr =>
      cases rr
      cases r
      cases r'
      obtain ⟨its, rv, pa, sa⟩ := I1.list hx
      obtain ⟨jts, rw', pb, sb⟩ := I1.list hy
      have la : a < s1.heap.objs.size := pa.lt
      have lb : b < s1.heap.objs.size := pb.lt
      have e1 := rv.length
      have e2 := rw'.length
      rw [List.length_map] at e1 sa
      refine call_zip_2 pa.isList pb.isList fun h2 hz hTI hTO i1 i2 hsz hk => args_nil ?_
      have D := PySem.W.ktu_apart s1.heap.objs.size a b la lb
      have dom : ∀ c o, s1.heap.get? c = some o → c ∉ [s1.heap.objs.size + 4, s1.heap.objs.size + 3, s1.heap.objs.size, s1.heap.objs.size + 1] := fun c o e hm => by
        have lt := Heap.lt_size e
        simp only [List.mem_cons, List.not_mem_nil, or_false] at hm
        rcases hm with rfl | rfl | rfl | rfl
        · exact absurd lt (Nat.not_lt.mpr (Nat.le_add_right _ _))
        · exact absurd lt (Nat.not_lt.mpr (Nat.le_add_right _ _))
        · exact Nat.lt_irrefl _ lt
        · exact absurd lt (Nat.not_lt.mpr (Nat.le_add_right _ _))
      refine PySem.call_dict_pairs (s := { s1 with heap := h2 }) (knd := mixKind X.prog X.w) (kvs := ks.zip jts) (PairArg.zip (prog := X.prog) (w := X.w) _ _ _ _ _ _ _ D its.toArray jts.toArray) (I1.ok.hd hc)
        ⟨hz, hTI, ⟨_, _, hTO⟩, i1, i2, pa.isList.at fun o e => hk _ o e, pb.isList.at fun o e => hk _ o e⟩ ⟨?_, fun i k v hr => ?_⟩ ?_ fun h3 tk hd k3 => ?_
      · rw [List.length_zip, List.size_toArray, List.size_toArray]
        omega
      · obtain ⟨f1, f2⟩ := hr
        obtain ⟨key, f3, f4⟩ := keys_is X.prog X.w rv i k (by simpa using f1)
        refine ⟨key, ?_, f4⟩
        rw [List.getElem?_zip_eq_some]
        exact ⟨f3, by simpa using f2⟩
      · rw [List.size_toArray, List.size_toArray]
        omega
      · have kv := KV.merge (kv_zip (ks := ks) hl rw') (show KV ([] : List (Key × V)) [] from .nil)
        have hlen : (mergeK [] (ks.zip ys)).length ≤ sizeLine := by
          refine Nat.le_trans (length_mergeK _ []) ?_
          rw [List.length_nil, Nat.zero_add, List.length_zip]
          omega
        have big : (h2.objs.size == sysModules) = false := beq_eq_false_iff_ne.mpr fun z => by
          have := I1.big
          rw [hsz] at z
          have z2 : s1.heap.objs.size + 5 = sysModules := z
          exact absurd this (by rw [← z2]; exact Nat.not_lt.mpr (Nat.le_add_right _ _))
        exact ⟨.ref h2.objs.size, upd H1 h2.objs.size (.dK (mergeK [] (ks.zip ys))), I1.laid (t' := tk) (fun c o e => k3 c o (dom c o e) (hk c o e)) (by rw [hsz]; exact Nat.le_add_right _ _)
          (show ObjOk X.prog X.w _ _ _ (.dK (mergeK [] (ks.zip ys))) from ⟨hlen, big, _, kv, hd⟩), rfl, q _ (I1.hok.fresh (by rw [hsz]; exact Nat.le_add_right _ _))⟩
end Ko

/-! What a dict of pairs holds -/
namespace Ko
open PySem L2 PySem.Spec PyProof.Rows Xm
section
variable {κ : Type} [DecidableEq κ]
theorem valV_mem {kvs : List (κ × V)} {k : κ} : (valV kvs k).isSome = true ↔ k ∈ kvs.map (·.1) := by
  unfold valV
  rw [Option.isSome_map, List.find?_isSome]
  constructor
  · rintro ⟨p, hp, e⟩
    exact List.mem_map.mpr ⟨p, hp, of_decide_eq_true e⟩
  · intro h
    obtain ⟨p, hp, e⟩ := List.mem_map.mp h
    exact ⟨p, hp, decide_eq_true e⟩
theorem put_keys {kvs : List (κ × V)} {k : κ} {v : V} : (putK kvs k v).map (·.1) = if k ∈ kvs.map (·.1) then kvs.map (·.1) else kvs.map (·.1) ++ [k] := by
  cases h : valV kvs k with
  | none =>
    have hn : ¬ k ∈ kvs.map (·.1) := fun z => by
      rw [← valV_mem, h] at z
      cases z
    rw [if_neg hn, putK_new v h, List.map_append]
    rfl
  | some y =>
    have hm : k ∈ kvs.map (·.1) := valV_mem.mp (by rw [h]; rfl)
    rw [if_pos hm]
    unfold putK
    split
    · rw [List.map_map]
      refine List.map_congr_left fun p _ => ?_
      show (if p.1 = k then (p.1, v) else p).1 = p.1
      split <;> rfl
    · rename_i hne
      exfalso
      simp only [List.any_eq_true, not_exists, not_and, decide_eq_true_eq] at hne
      obtain ⟨p, hp, e⟩ := List.mem_map.mp hm
      exact hne p hp e
end
theorem merge_nodup : ∀ (more kvs : List (Key × V)), (kvs.map (·.1)).Nodup → ((mergeK kvs more).map (·.1)).Nodup
  | [], _, h => h
  | p :: r, kvs, h => by
    refine merge_nodup r (putK kvs p.1 p.2) ?_
    rw [put_keys]
    split
    · exact h
    · rename_i hn
      exact List.nodup_append.mpr ⟨h, by simp, fun a ha b hb e => hn (by rw [← List.mem_singleton.mp hb, ← e]; exact ha)⟩
theorem merge_val : ∀ (more kvs : List (Key × V)) (k : Key) (v : V), valV (mergeK kvs more) k = some v → (k, v) ∈ more ∨ valV kvs k = some v
  | [], _, _, _, h => .inr h
  | p :: r, kvs, k, v, h => by
    rcases merge_val r (putK kvs p.1 p.2) k v h with e | e
    · exact .inl (.tail _ e)
    · rw [valV_put] at e
      split at e
      · rename_i ek
        cases e
        subst ek
        exact .inl (.head _)
      · exact .inr e
theorem merge_mem : ∀ (more kvs : List (Key × V)) (k : Key), k ∈ (mergeK kvs more).map (·.1) ↔ k ∈ more.map (·.1) ∨ k ∈ kvs.map (·.1)
  | [], kvs, k => by
    show k ∈ kvs.map (·.1) ↔ _
    simp
  | p :: r, kvs, k => by
    show k ∈ (mergeK (putK kvs p.1 p.2) r).map (·.1) ↔ _
    rw [merge_mem r, put_keys, List.map_cons, List.mem_cons]
    split
    · rename_i hm
      constructor
      · rintro (h | h)
        · exact .inl (.inr h)
        · exact .inr h
      · rintro ((h | h) | h)
        · subst h
          exact .inr hm
        · exact .inl h
        · exact .inr h
    · rw [List.mem_append, List.mem_singleton]
      constructor
      · rintro (h | h | h)
        · exact .inl (.inr h)
        · exact .inr h
        · exact .inl (.inl h)
      · rintro ((h | h) | h)
        · exact .inr (.inr h)
        · exact .inl h
        · exact .inr (.inl h)
/-- keys that are ints -/
def intK : Key → Int
  | .inl i => i
  | .inr _ => 0
theorem keys_int {kvs : List (Key × V)} (h : ∀ k ∈ kvs.map (·.1), ∃ i, k = Sum.inl i) : kvs.map (·.1) = (kvs.map fun p => intK p.1).map Sum.inl := by
  rw [List.map_map]
  refine List.map_congr_left fun p hp => ?_
  obtain ⟨i, e⟩ := h p.1 (List.mem_map.mpr ⟨p, hp, rfl⟩)
  show p.1 = Sum.inl (intK p.1)
  rw [e]
  rfl
/-- a dict of keys and values, side by side: what it holds -/
theorem zip_dict {ns : List Int} {ys : List V} (hl : ns.length = ys.length) : let d := mergeK [] ((ns.map Sum.inl : List Key).zip ys)
    ∃ ks : List Int, d.map (·.1) = ks.map Sum.inl ∧ ks.Nodup ∧ (∀ k, k ∈ ks ↔ k ∈ ns) ∧ ks.length ≤ ns.length ∧ ∀ k ∈ ks, ∃ (j : Nat) (v : V), ns[j]? = some k ∧ ys[j]? = some v ∧ valV d (Sum.inl k) = some v := by
  intro d
  have hm : ∀ k, k ∈ d.map (·.1) ↔ k ∈ (ns.map Sum.inl : List Key) := fun k => by
    rw [merge_mem, List.map_fst_zip (by rw [List.length_map]; omega)]
    simp
  have hk := keys_int (kvs := d) fun k h => by
    obtain ⟨i, _, e⟩ := List.mem_map.mp ((hm k).mp h)
    exact ⟨i, e.symm⟩
  have hn := merge_nodup ((ns.map Sum.inl : List Key).zip ys) [] .nil
  refine ⟨d.map fun p => intK p.1, hk, ?_, fun k => ?_, ?_, fun k hk' => ?_⟩
  · have hn2 : (d.map (·.1)).Nodup := hn
    rw [hk] at hn2
    exact (List.pairwise_map.mp hn2).imp fun h e => h (by rw [e])
  · have := hm (Sum.inl k)
    rw [hk] at this
    constructor
    · intro z
      obtain ⟨i, hi, e⟩ := List.mem_map.mp (this.mp (List.mem_map_of_mem z))
      cases e
      exact hi
    · intro z
      obtain ⟨i, hi, e⟩ := List.mem_map.mp (this.mpr (List.mem_map_of_mem z))
      cases e
      exact hi
  · rw [List.length_map]
    refine Nat.le_trans (length_mergeK _ []) ?_
    rw [List.length_nil, List.length_zip, List.length_map]
    omega
  · have h1 : (Sum.inl k : Key) ∈ d.map (·.1) := by
      rw [hk]
      exact List.mem_map_of_mem hk'
    obtain ⟨v, hv⟩ := Option.isSome_iff_exists.mp (valV_mem.mpr h1)
    rcases merge_val _ _ _ _ hv with e | e
    · obtain ⟨j, hj⟩ := List.mem_iff_getElem?.mp e
      rw [List.getElem?_zip_eq_some] at hj
      obtain ⟨j1, j2⟩ := hj
      rw [List.getElem?_map] at j1
      cases hx : ns[j]? with
      | none => rw [hx] at j1; cases j1
      | some n =>
        rw [hx] at j1
        cases j1
        exact ⟨j, v, hx, j2, hv⟩
    · cases e
end Ko

/-! more readings taken apart: keywords, dicts, unpacking, whiles -/
namespace Ko
open PySem L2 PySem.Spec PyProof.Rows Xm
section
variable {σ : Sg} {H : Hp} {Q : VK} {v x y : V} {i : Nat} {ta tb tc te to : TE} {K : Fg}
theorem g_ckw {r : List V → List V → Hp → VK → Prop} {t tk : TA} (q : t σ H fun vs H1 => tk σ H1 fun zs H2 => r vs zs H2 Q) : tCKw r t tk σ H Q := q
theorem g_callK {sp : Sp} {gV : List V → List V → List V} {E : XK} {t tk : TA} (q : t σ H fun vs H1 => tk σ H1 fun zs H2 => sp (gV vs zs) H2 Q E) : tCallK sp gV E t tk σ H Q := q
theorem g_dget (q : ta σ H fun x H1 => tb σ H1 fun y H2 => ∃ a v, x = .ref a ∧ DGet H2 a y (some v) ∧ Q v H2) : tDGet ta tb σ H Q := q
theorem g_dgetI {a : Addr} {kvs : List (Key × V)} {k : Int} (h : H a = some (.dK kvs)) (e : valV kvs (Sum.inl k) = some v) (q : Q v H) : ∃ a' v', V.ref a = .ref a' ∧ DGet H a' (.int k) (some v') ∧ Q v' H := ⟨a, v, rfl, e ▸ DGet.k (k := Sum.inl k) h, q⟩
def rgSortD : List V → Hp → VK → Prop := fun xs H Q => ∃ (a : Addr) (kvs : List (Key × V)) (ks : List Int), xs = [.ref a] ∧ Rd H a (.dK kvs) ∧ kvs.map (·.1) = ks.map Sum.inl ∧ ks.length < 64 ∧
    ∀ (ys : List Int) (p : Addr), ys.Perm ks → ys.Pairwise (· ≤ ·) → H p = none → Q (.ref p) (upd H p (.lst (ys.map V.int)))
theorem cg_sortedD {X : Cx} (hcalm : X.calm = true) : CallR X (.builtin "sorted") rgSortD := call_sortedDI hcalm
theorem g_sortD {a : Addr} {kvs : List (Key × V)} {ks : List Int} (h : H a = some (.dK kvs)) (hk : kvs.map (·.1) = ks.map Sum.inl) (hl : ks.length < 64) (hn : ks.Nodup)
    (q : ∀ (ys : List Int) (p : Addr), (∀ k, k ∈ ys ↔ k ∈ ks) → ys.length = ks.length → ys.Pairwise (· < ·) → H p = none → Q (.ref p) (upd H p (.lst (ys.map V.int)))) : rgSortD [.ref a] H Q :=
  ⟨a, kvs, ks, rfl, .inl h, hk, hl, fun ys p hp hs np => q ys p (fun k => hp.mem_iff) hp.length_eq (List.Pairwise.imp₂ (fun a b h1 h2 => by
    have h1' : a ≠ b := h1
    have h2' : a ≤ b := h2
    omega) ((hp.nodup_iff).mpr hn) hs) np⟩
theorem g_dictZip {t : TA} (q : t σ H fun vs H1 => ∃ (a b : Addr) (ks : List Key) (ys : List V), vs = [.ref a, .ref b] ∧ SqL K H1 a (ks.map kV) ∧ SqL K H1 b ys ∧ ks.length = ys.length ∧ ∀ p, H1 p = none → Q (.ref p) (upd H1 p (.dK (mergeK [] (ks.zip ys))))) : tDictZip K t σ H Q := q
theorem g_dictZipE {a b : Addr} {ns : List Int} {ys : List V} {f : Addr → List Key → List V → Prop} (hx : SqL K H a (ns.map V.int)) (hy : SqL K H b ys) (hl : ns.length = ys.length)
    (q : ∀ p, H p = none → f p (ns.map Sum.inl) ys) : ∃ (a' b' : Addr) (ks : List Key) (ys : List V), [V.ref a, V.ref b] = [.ref a', .ref b'] ∧ SqL K H a' (ks.map kV) ∧ SqL K H b' ys ∧ ks.length = ys.length ∧ ∀ p, H p = none → f p ks ys :=
  ⟨a, b, ns.map Sum.inl, ys, rfl, by rw [List.map_map]; exact hx, hy, by rw [List.length_map]; exact hl, q⟩
/-! unpacking -/
theorem g_gTup {n : Nat} {t : TGs} {a : Addr} {xs : List V} {N : Sg → Hp → Prop} (q : t xs σ H N) (h : SqT K H a xs) (hn : xs.length = n) : gTup K n t (.ref a) σ H N := ⟨a, xs, rfl, h, hn, q⟩
theorem g_gCons {t : TG} {u : TGs} {v : V} {r : List V} {N : Sg → Hp → Prop} (q : t v σ H fun σ' H' => u r σ' H' N) : gCons t u (v :: r) σ H N := ⟨v, r, rfl, q⟩
theorem g_gNil {N : Sg → Hp → Prop} (q : N σ H) : gNil [] σ H N := ⟨rfl, q⟩
theorem g_revL (q : te σ H fun x H1 => ∃ a xs, x = .ref a ∧ SqL K H1 a xs ∧ ∀ p, H1 p = none → Q (.ref p) (upd H1 p (.lst xs.reverse))) : tRevL K te σ H Q := q
theorem g_revLE {a : Addr} {xs : List V} {f : Addr → List V → Prop} (h : SqL K H a xs) (q : ∀ p, H p = none → f p xs) : ∃ a' xs, V.ref a = .ref a' ∧ SqL K H a' xs ∧ ∀ p, H p = none → f p xs := ⟨a, xs, rfl, h, q⟩
end
theorem g_for {wi : TI} {g : TG} {tb : TS} {D : Ends} {σ : Sg} {H : Hp} (q : wi σ H fun J H1 => ∃ W : Nat → Nat → Sg → Hp → Prop, (∃ m, W 0 m σ H1) ∧ ∀ i m σ H, W i m σ H →
    (J.stop i H ∧ D.nx σ H) ∨ (J.go i H ∧ ∃ N : Sg → Hp → Prop, (∀ σ' H', N σ' H' → ∃ m', m' < m ∧ W (i + 1) m' σ' H') ∧ ∀ x H', J.yld i H x H' → g x σ H' fun σ2 H2 => tb { D with nx := N, ct := N, bk := D.nx } σ2 H2)) : tFor wi g tb D σ H := q
theorem same_at {H H' : Hp} {a : Addr} {o : HO} (s : Same H H') (h : H a = some o) : H' a = some o := s _ _ h
section
variable {X : Cx}
theorem ix_seqK (K : Fg) (h : X.K = K := by rfl) : IxR X (rIx K) := h ▸ ix_seq
theorem cg_lenK (K : Fg) (h : X.K = K := by rfl) : CallR X (.builtin "len") (rgLen K) := h ▸ cg_len
theorem cg_isiK (K : Fg) (h : X.K = K := by rfl) : CallR X (.builtin "isinstance") (rgIsi K) := h ▸ cg_isi
theorem cg_isiTK (K : Fg) (h : X.K = K := by rfl) : CallR X (.builtin "isinstance") (rgIsiT K) := h ▸ cg_isiT
theorem cr_allK (K : Fg) (hc : X.calm = true) (h : X.K = K := by rfl) : CallR X (.builtin "all") (rAll K) := h ▸ cr_all hc
end
/-- a while that is never entered -/
theorem g_while0 {c : TT} {tb : TS} {D : Ends} {σ : Sg} {H : Hp} (hc : ∀ R : Bool → Hp → Prop, R false H → c σ H R) (q : D.nx σ H) : tWhile c tb D σ H :=
  ⟨fun m σ' H' => σ' = σ ∧ H' = H, ⟨0, rfl, rfl⟩, fun m σ' H' h => by
    obtain ⟨rfl, rfl⟩ := h
    exact hc _ q⟩
end Ko

/-! The heap without the bag -/
namespace Ko
open PySem L2 PySem.Spec PyProof.Rows Xm
section
variable {N : Nat} {H H' : Hp} {b c p a : Addr} {o : HO}
theorem mk_same : Same (delH H b) H := fun a o e => by
  by_cases h : a = b
  · rw [h, delH_same] at e
    cases e
  · rw [delH_ne h] at e
    exact e
theorem mk_mono (s : Same H H') : Same (delH H b) (delH H' b) := fun a o e => by
  by_cases h : a = b
  · rw [h, delH_same] at e
    cases e
  · rw [delH_ne h] at e ⊢
    exact s _ _ e
theorem mk_kp (k : Kp N b c H H') : Same (delH H b) (delH H' b) := fun a o e => by
  by_cases h : a = b
  · rw [h, delH_same] at e
    cases e
  · rw [delH_ne h] at e ⊢
    exact k.1 a o h e
theorem mk_at (e : H a = some o) (h : a ≠ b) : delH H b a = some o := by
  rw [delH_ne h]
  exact e
theorem mk_ne (e : delH H b a = some o) : a ≠ b := fun h => by
  rw [h, delH_same] at e
  cases e
theorem mk_new (n : H p = none) (B : Bag N H b c) : delH (upd H p o) b p = some o := mk_at upd_same (B.free n).1
theorem mk_upd (n : H p = none) : Same (delH H b) (delH (upd H p o) b) := mk_mono (same_new n)
theorem mk_none (n : H p = none) : delH H b p = none := by
  by_cases h : p = b
  · rw [h, delH_same]
  · rw [delH_ne h]
    exact n
/-- what is new to a heap with the bag is not the bag -/
theorem bag_new (B : Bag N H b c) (n : H p = none) : p ≠ b := (B.free n).1
/-- bag stays where only another list changes -/
theorem bag_upd (B : Bag N H b c) (n : H p = none) : Bag N (upd H p o) b c := B.same (same_new n)
/-- the bag with a list of its own changed: p is neither -/
theorem bag_put (B : Bag N H b c) (hb : p ≠ b) (hc : p ≠ c) : Bag N (upd H p o) b c := B.put hb hc
end
/-- pure steps hand the bag on -/
theorem bag_same {N : Nat} {H H' : Hp} {b c : Addr} (B : Bag N H b c) (s : Same H H') : Bag N H' b c := B.same s
end Ko

/-! two values alike -/
namespace Ko
open PySem L2 PySem.Spec PyProof.Rows Xm
/-- nested at most so deep, no list longer than a thousand -/
def Dt.ok : Nat → Dt → Prop
  | _, .non => True
  | _, .bl _ => True
  | _, .int _ => True
  | _, .str _ => True
  | 0, .lst _ => False
  | 0, .tup _ => False
  | n + 1, .lst l => l.length ≤ 1000 ∧ ∀ x ∈ l, Dt.ok n x
  | n + 1, .tup l => l.length ≤ 1000 ∧ ∀ x ∈ l, Dt.ok n x
def spLike (n : Nat) : Sp := fun vs H Q _ => ∃ x y d, vs = [x, y] ∧ Dq H x d ∧ Dq H y d ∧ Dt.ok n d ∧ ∀ H', Same H H' → Q (.bl true) H'
theorem kLTF {K : Fg} {t : String} (h1 : kitB t "list" = some false) (h2 : kitB t "tuple" = some false) : PySem.W.kitAny K (.type t) [.type "list", .type "tuple"] = some false :=
  kitAny_cons (kit_ty h1) (fun _ => kitAny_cons (kit_ty h2) (fun _ => kitAny_nil) (fun e => by cases e)) (fun e => by cases e)
theorem kLTT {K : Fg} {t : String} {b1 b2 : Bool} (h1 : kitB t "list" = some b1) (h2 : kitB t "tuple" = some b2) (hb : (b1 || b2) = true) : PySem.W.kitAny K (.type t) [.type "list", .type "tuple"] = some true :=
  kitAny_cons (kit_ty h1) (fun e => kitAny_cons (kit_ty h2) (fun e2 => by rw [e, e2] at hb; cases hb) fun _ => rfl) (fun _ => rfl)
section
variable {H : Hp} {Q : VK} {K : Fg} {a tp : Addr} {x : V} {t : Value} {b : Bool}
theorem g_isiLT (q : Q (.bl b) H) (h : H tp = some (.tup [.ty "list", .ty "tuple"])) (ht : TyX K H x t) (hb : PySem.W.kitAny K t [.type "list", .type "tuple"] = some b) : rgIsiT K [x, .ref tp] H Q :=
  ⟨x, tp, _, t, [.type "list", .type "tuple"], b, rfl, h, .cons (.ty _) (.cons (.ty _) .nil), ht, hb, q⟩
theorem g_LT_int {i : Int} (q : Q (.bl false) H) (h : H tp = some (.tup [.ty "list", .ty "tuple"])) : rgIsiT K [.int i, .ref tp] H Q := g_isiLT q h (TyX.base (.int i)) (kLTF kit_int_list kit_int_tuple)
theorem g_LT_str {i : Str} (q : Q (.bl false) H) (h : H tp = some (.tup [.ty "list", .ty "tuple"])) : rgIsiT K [.str i, .ref tp] H Q := g_isiLT q h (TyX.base (.str i)) (kLTF kit_str_list kit_str_tuple)
theorem g_LT_bl {i : Bool} (q : Q (.bl false) H) (h : H tp = some (.tup [.ty "list", .ty "tuple"])) : rgIsiT K [.bl i, .ref tp] H Q := g_isiLT q h (TyX.base (.bl i)) (kLTF kit_bool_list kit_bool_tuple)
theorem g_LT_non (q : Q (.bl false) H) (h : H tp = some (.tup [.ty "list", .ty "tuple"])) : rgIsiT K [.non, .ref tp] H Q := g_isiLT q h (TyX.base .non) (kLTF kit_NoneType_list kit_NoneType_tuple)
theorem g_LT_lst {xs : List V} (q : Q (.bl true) H) (h : H tp = some (.tup [.ty "list", .ty "tuple"])) (ha : H a = some (.lst xs)) : rgIsiT K [.ref a, .ref tp] H Q := g_isiLT q h (TyX.base (.lst ha)) (kLTT kit_list_list kit_list_tuple rfl)
theorem g_LT_tup {xs : List V} (q : Q (.bl true) H) (h : H tp = some (.tup [.ty "list", .ty "tuple"])) (ha : H a = some (.tup xs)) : rgIsiT K [.ref a, .ref tp] H Q := g_isiLT q h (TyX.base (.tup ha)) (kLTT kit_tuple_list kit_tuple_tuple rfl)
theorem g_iZipA {ta : TA} {σ : Sg} {R : It → Hp → Prop} (q : ta σ H fun vs H1 => ∃ a b xs ys, vs = [.ref a, .ref b] ∧ ((SqL K H1 a xs ∧ SqL K H1 b ys ∧ R (Itz K a b) H1) ∨ (SqT K H1 a xs ∧ SqT K H1 b ys ∧ R (RZ.ItzT K a b) H1))) : RZ.iZipA K ta σ H R := q
end
theorem walk_zipT {K : Fg} {a b : Addr} {xs ys : List V} {n : Nat} (hn : n = min xs.length ys.length) : Walk (RZ.ItzT K a b) n (fun H => SqT K H a xs ∧ SqT K H b ys) (YPair (fun i => xs[i]?) (fun i => ys[i]?)) := by
  subst hn
  refine ⟨fun i H hi q => ?_, fun H q => ⟨xs, ys, q.1, q.2, by omega⟩, fun i H v H' hi q y => ?_⟩
  · have l1 : i < xs.length := by omega
    have l2 : i < ys.length := by omega
    exact ⟨xs, ys, xs[i], ys[i], q.1, q.2, by simp [l1], by simp [l2]⟩
  · obtain ⟨T, x, z, e1, e2, e3, e4, e5⟩ := y
    exact ⟨T, x, z, e1, e2, e3, e4 xs q.1, e5 ys q.2⟩
theorem gm_pair {K : Fg} {i j : Nat} : ∀ x (σ : Sg) (H : Hp) (R R' : Sg → Hp → Prop), (∀ b H', R b H' → R' b H') → gTup K 2 (gCons (gName i) (gCons (gName j) gNil)) x σ H R → gTup K 2 (gCons (gName i) (gCons (gName j) gNil)) x σ H R' := fun x σ H R R' h q => by
  obtain ⟨a, xs, e1, e2, e3, v, r, e4, v2, r2, e5, e6, q⟩ := q
  exact ⟨a, xs, e1, e2, e3, v, r, e4, v2, r2, e5, e6, h _ _ q⟩
theorem g_wipe2 {K : Fg} {i j : Nat} {t : Addr} {x y : V} {σ : Sg} {H : Hp} {vs : List Nat} {R : Sg → Hp → Prop} (h : SqT K H t [x, y]) (e : wipe ((σ.set i (some x)).set j (some y)) vs = wipe σ vs) (q : R ((σ.set i (some x)).set j (some y)) H) :
    gTup K 2 (gCons (gName i) (gCons (gName j) gNil)) (.ref t) σ H fun σ2 H2 => wipe σ2 vs = wipe σ vs ∧ R σ2 H2 := ⟨t, _, rfl, h, rfl, x, _, rfl, y, _, rfl, rfl, e, q⟩
end Ko

/-! pairs of ints compared as data -/
namespace Ko
open PySem L2 PySem.Spec PyProof.Rows Xm
def pqD (q : Pq) : PyData := .tuple [.int q.1, .int q.2]
theorem eqv_pq (p q : Pq) : PyData.eqv (pqD p) (pqD q) = decide (p = q) := by
  obtain ⟨a, b⟩ := p
  obtain ⟨c, d⟩ := q
  show (a == c && (b == d && true)) = _
  by_cases h : a = c
  · by_cases k : b = d
    · subst h k
      simp
    · rw [decide_eq_false (fun z => k (Prod.mk.inj z).2)]
      simp [k]
  · rw [decide_eq_false (fun z => h (Prod.mk.inj z).1)]
    simp [h]
theorem any_pq (q : Pq) : ∀ qs : List Pq, ((qs.map pqD).any fun z => PyData.eqv z (pqD q)) = decide (q ∈ qs)
  | [] => by simp
  | p :: qs => by
    rw [List.map_cons, List.any_cons, eqv_pq, any_pq q qs]
    by_cases h : p = q
    · subst h
      simp
    · have h' : ¬ q = p := fun z => h z.symm
      simp [h, h']
theorem shp_pq (q : Pq) : SeqAt.shaped (pqD q) = true := rfl
theorem shp_pqs (qs : List Pq) : SeqAt.shaped (.list (qs.map pqD)) = true := by
  have h1 : ∀ qs : List Pq, PyData.canLayAll0 (qs.map pqD) = true := fun qs => by
    induction qs with
    | nil => rfl
    | cons q qs ih =>
      show (PyData.canLay0 (pqD q) && PyData.canLayAll0 (qs.map pqD)) = true
      rw [ih]
      rfl
  have h2 : ∀ qs : List Pq, PyData.depthAll (qs.map pqD) ≤ 1 := fun qs => by
    induction qs with
    | nil => decide
    | cons q qs ih =>
      show max (PyData.depth (pqD q)) (PyData.depthAll (qs.map pqD)) ≤ 1
      have : PyData.depth (pqD q) = 1 := rfl
      omega
  have h3 := h2 qs
  show (PyData.canLayAll0 (qs.map pqD) && decide (PyData.depthAll (qs.map pqD) + 1 ≤ 64)) = true
  rw [h1 qs, decide_eq_true (by omega)]
  rfl
section
variable {K : Fg} {H : Hp} {Q : VK} {a b : Addr} {p q : Pq} {qs : List Pq} {vs : List V}
theorem pr_dp {v : V} (h : Pr H v q) : Dp K H v (pqD q) := by
  obtain ⟨a, rfl, h⟩ := h
  exact .tup (SqT.of h) (.cons (.int _) (.cons (.int _) .nil))
theorem prs_dp {vs : List V} {qs : List Pq} (h : Paired (Pr H) vs qs) : DpAll K H vs (qs.map pqD) := by
  induction h with
  | nil => exact .nil
  | cons h _ ih => exact .cons (pr_dp h) ih
theorem g_notInP {v : V} (k : Q (.bl (!decide (q ∈ qs))) H) (hv : Pr H v q) (hl : SqL K H b vs) (hp : Paired (Pr H) vs qs) : rNotInD K v (.ref b) H Q :=
  ⟨pqD q, qs.map pqD, pr_dp hv, .lst hl (prs_dp hp), shp_pq q, shp_pqs qs, by rw [any_pq]; exact k⟩
theorem g_eqP {v w : V} (k : Q (.bl (decide (p = q))) H) (hv : Pr H v p) (hw : Pr H w q) : rEqD K v w H Q :=
  ⟨pqD p, pqD q, pr_dp hv, pr_dp hw, shp_pq p, shp_pq q, by rw [eqv_pq]; exact k⟩
theorem notInD_K {X : Cx} (K : Fg) (hu : X.A.units + 65 < cLine) (h : X.K = K := by rfl) : OpR X (compareOp .NotIn) (rNotInD K) := h ▸ op_notInD hu
theorem eqD_K {X : Cx} (K : Fg) (hu : X.A.units + 64 < cLine) (h : X.K = K := by rfl) : OpR X (compareOp .Eq) (rEqD K) := h ▸ op_eqD hu
end
theorem hu65 {A : Around} {k : Nat} (hr : Room k A) : A.units + 65 < cLine := by
  have := hr.un
  omega
section
variable {N : Nat} {H : Hp} {b c t : Addr} {xs : List V}
theorem mk_tup (h : H t = some (.tup xs)) (B : Bag N H b c) : delH H b t = some (.tup xs) := mk_at h (B.neTup h)
theorem mk_lst (h : H t = some (.lst xs)) (B : Bag N H b c) (n : xs.length ≠ 5) : delH H b t = some (.lst xs) := mk_at h (B.nePair h n)
end
section
variable {σ : Sg} {H : Hp} {D : Ends} {i j l : Nat} {a : TA}
theorem g_par3 (q : a σ H fun vs H1 => ∃ u v w, vs = [u, v, w] ∧ D.nx (((σ.set i (some u)).set j (some v)).set l (some w)) H1) : tPar3 i j l a D σ H := q
theorem g_par3E {u v w : V} {f : V → V → V → Prop} (q : f u v w) : ∃ u' v' w', [u, v, w] = [u', v', w'] ∧ f u' v' w' := ⟨u, v, w, rfl, q⟩
end
/-! calls with keywords alone -/
theorem pe_callK0 {X : Cx} {CX : CXT} {k : Nat} {f : Addr} {fd : FuncData} {ps ks : List Str} {sp : Sp} {E : XK} {x : Str} {p pos : Pos} {kws : List Keyword} {tk : TA} {g : List Value → List Value → List Value} {gV : List V → List V → List V}
    (Fk : FnOk X.prog X.w X.K X.mg X.base CX k f fd ps sp) (hr : Room k X.A) (hg : Gl X x) (hm : X.mg x = some (.ref f)) (hk : PySem.W.keepIn X.K (.ref f) = true) (hb : KBinds X.K fd ps ks g gV) (hx : Passes CX X E)
    (hkw : PK X kws tk) (named : (backToKw pos (keywordEach kws X.env)).all (·.1.isSome) = true := by rfl) (names : (backToKw pos (keywordEach kws X.env)).filterMap (·.1) = ks := by rfl)
    (hdb : (x == ("__debug__" : Str)) = false := by decide)
    (noStar : ((backTo pos (starEach [] X.env)).any (·.1) || (backToKw pos (keywordEach kws X.env)).any (·.1.isNone)) = false := by rfl) :
    PE X (.Call (.Name x p) [] kws pos) (tCallK sp gV E tNil tk) := by
  refine ⟨fun pins s σ H Q I h => wpAny_Call_Name_kw (ld_glob I hg hm ?_ hdb)⟩
  refine PySem.W.callWith_KW0 (h₀ := X.base) I.ok.mod.kin hk named (thn (hkw.run pos pins s σ H _ I h) fun ws s2 hh => ?_) noStar
  obtain ⟨zs, H2, I2, rz, q2⟩ := hh
  refine ⟨I2.kIn, ?_⟩
  rw [names]
  exact run_fnk Fk hr hb hx I2 (vs := []) (us := []) .nil rz q2
theorem kbs {K : PySem.W.Frag} {x qual : Str} {st : Stmt} {f : Addr} {fd : FuncData} {ps : List Str} (F : Fun K x qual st f fd) (ks : List Str) (g : {α : Type} → List α → List α → List α)
    (hg : ∀ (vs zs : List V) (us ws : List Value), Vals vs us → Vals zs ws → Vals (g vs zs) (g us ws))
    (h : ∀ (kV doc pm : Value) (an : Option Addr) (cdv ct : Value) (us ws : List Value), (g us ws).length = ps.length →
      bindArgs (PySem.W.fnOf x qual (defArgs st) (defBody st) (defScope st) .none kV doc pm an cdv ct) ⟨us, ks.zip ws⟩ = pure (ps.zip (g us ws))) : KBinds K fd ps ks (fun us ws => g us ws) (fun us ws => g us ws) := by
  obtain ⟨oc, od, kV, doc, pm, an, cdv, ct, osl, rfl, lk, hcd⟩ := F.ex
  exact ⟨fun s us ws X l1 => .of_eq (h kV doc pm an cdv ct us ws l1), fun r1 r2 => hg _ _ _ _ r1 r2⟩
/-- a def that is called with keywords -/
structure DfK (P : Program) (w : World) (K : PySem.W.Frag) (mg : Str → Option Value) (base : Heap) (k : Nat) (x : Str) (f : Addr) (ps ks : List Str) (jn : {α : Type} → List α → List α → List α) (sp : Sp) : Prop where
  g : mg x = some (.ref f)
  kp : PySem.W.keepIn K (.ref f) = true
  ok : ∃ fd, FnOk P w K mg base CX0 k f fd ps sp ∧ KBinds K fd ps ks (fun us ws => jn us ws) (fun us ws => jn us ws)
theorem g_krev {H : Hp} {Q : VK} {E : XK} {sp : Sp} {x y : V} (q : sp [x, y] H Q E) : sp ((fun us ws => us ++ ws.reverse) [] [y, x]) H Q E := q
theorem g_kapp {H : Hp} {Q : VK} {E : XK} {sp : Sp} {x : V} (q : sp [x] H Q E) : sp ((fun us ws => us ++ ws) [] [x]) H Q E := q
end Ko

/-! Comprehensions whose elements draw from the bag -/
namespace Ko
open PySem L2 PySem.Spec PyProof.Rows Xm
/-- all but D stands beside the bag -/
abbrev ButB (b D : Addr) (H H' : Hp) : Prop := ∀ a o, a ≠ D → delH H b a = some o → delH H' b a = some o
theorem lcB {J : It} {n N cst : Nat} {G : Hp → Prop} {Y : Nat → Hp → V → Hp → Prop} (w : Walk J n G Y) {g : TG} {te : TE} {vs : List Nat} {σ : Sg} {H1 : Hp} {D b c : Addr} {Qd : Hp → Prop} (nD : H1 D = none) (B : Bag N H1 b c)
    (F : Hp → Nat → V → Prop) (hn : n ≤ 100000) (hG : ∀ M H2, Same (delH H1 b) (delH H2 b) → Bag M H2 b c → G H2) (mono : ∀ H H' k y, ButB b D H H' → F H k y → F H' k y)
    (he : ∀ k x H2 H2', k < n → Same (delH H1 b) (delH H2 b) → Bag (N - k * cst) H2 b c → (∃ acc, H2 D = some (.lst acc)) → Y k H2 x H2' → ∀ (Kt : VK), (∀ y H5, Same (delH H2 b) (delH H5 b) → Bag (N - (k + 1) * cst) H5 b c → F H5 k y → Kt y H5) →
      g x (wipe σ vs) H2' fun σ2 H3 => wipe σ2 vs = wipe σ vs ∧ te σ2 H3 Kt)
    (q : ∀ H' ys, Same (delH H1 b) (delH H' b) → Bag (N - n * cst) H' b c → H' D = some (.lst ys) → ys.length = n → (∀ k v, ys[k]? = some v → F H' k v) → Qd H')
    (gm : ∀ x σ H (R R' : Sg → Hp → Prop), (∀ b H', R b H' → R' b H') → g x σ H R → g x σ H R') :
    ∃ W : Nat → Nat → Hp → Prop, (∃ m, W 0 m (upd H1 D (.lst []))) ∧ ∀ i m H, W i m H →
      (J.stop i H ∧ Qd H) ∨ (J.go i H ∧ ∃ Nx : Hp → Prop, (∀ H', Nx H' → ∃ m', m' < m ∧ W (i + 1) m' H') ∧ ∀ x H', J.yld i H x H' → g x (wipe σ vs) H' fun σ2 H2 => wipe σ2 vs = wipe σ vs ∧ tYes σ2 H2 fun b H3 =>
        if b = true then te σ2 H3 fun y H4 => ∃ acc, H4 D = some (.lst acc) ∧ acc.length < sizeLine ∧ Nx (upd H4 D (.lst (acc ++ [y]))) else Nx H3) := by
  have hDb : D ≠ b := (B.free nD).1
  have hDc : D ≠ c := (B.free nD).2
  refine lc_it w (fun i H => ∃ ys, H D = some (.lst ys) ∧ Same (delH H1 b) (delH H b) ∧ Bag (N - i * cst) H b c ∧ ys.length = i ∧ ∀ k v, ys[k]? = some v → F H k v) ⟨[], upd_same, mk_upd nD, by rw [Nat.zero_mul]; exact bag_upd B nD, rfl, fun k v h => by simp at h⟩ (fun i H _ h => ?_) (fun i x H H' hi h y => ?_) (fun H h => ?_)
  · obtain ⟨ys, _, s, B2, _⟩ := h
    exact hG _ H s B2
  · obtain ⟨ys, hD, s, B2, hl, hf⟩ := h
    refine gm _ _ _ _ _ (fun σ2 H3 z => ⟨z.1, ?_⟩) (he i x H H' hi s B2 ⟨ys, hD⟩ y (fun y H4 => ∃ acc, H4 D = some (.lst acc) ∧ acc.length < sizeLine ∧ ∃ ys, upd H4 D (.lst (acc ++ [y])) D = some (.lst ys) ∧ Same (delH H1 b) (delH (upd H4 D (.lst (acc ++ [y]))) b) ∧ Bag (N - (i + 1) * cst) (upd H4 D (.lst (acc ++ [y]))) b c ∧ ys.length = i + 1 ∧ ∀ k v, ys[k]? = some v → F (upd H4 D (.lst (acc ++ [y]))) k v) fun y H5 s5 B5 f => ?_)
    · refine g_yes ?_
      exact iteT z.2
    · have hD5 : H5 D = some (.lst ys) := mk_same _ _ (s5 _ _ (mk_at hD hDb))
      have but : ButB b D H5 (upd H5 D (.lst (ys ++ [y]))) := fun a o h e => by
        have hb := mk_ne e
        rw [delH_ne hb, upd_ne h, ← delH_ne hb (H := H5)]
        exact e
      refine ⟨ys, hD5, Nat.lt_of_lt_of_le (show ys.length < 100000 + 1 by omega) (by rw [sizeLine_eq]; decide), ys ++ [y], upd_same, fun a o e => ?_, bag_put B5 hDb hDc, by simp [hl], fun k v hk => ?_⟩
      · have ha : a ≠ D := ne_of_none e (mk_none nD)
        exact but a o ha (s5 _ _ (s _ _ e))
      · rcases Nat.lt_or_ge k ys.length with lt | ge
        · rw [List.getElem?_append_left lt] at hk
          exact mono _ _ _ _ but (mono _ _ _ _ (fun a o _ e => s5 _ _ e) (hf k v hk))
        · rw [List.getElem?_append_right ge] at hk
          have e0 : k - ys.length = 0 := by
            rcases Nat.eq_zero_or_pos (k - ys.length) with z | z
            · exact z
            · rw [List.getElem?_eq_none (by simp; omega)] at hk
              cases hk
          rw [e0] at hk
          have ek : k = i := by omega
          subst ek
          cases hk
          exact mono _ _ _ _ but f
  · obtain ⟨ys, hD, s, B2, hl, hf⟩ := h
    exact q H ys s B2 hD hl hf
/-- numbers of at most sixty digits -/
def BigQ (q : Pq) : Prop := Lo q ∧ q.1.natAbs < 10 ^ 60 ∧ q.2.natAbs < 10 ^ 60
/-- a list of numbers, drawn from -/
def Pool (M : Hp) (vs : List V) : Prop := ∀ v ∈ vs, ∃ t n d, v = .ref t ∧ M t = some (.tup [.int n, .int d]) ∧ BigQ (n, d)
theorem Pool.same {M M' : Hp} {vs : List V} (s : Same M M') (h : Pool M vs) : Pool M' vs := fun v hv => by
  obtain ⟨t, n, d, e, ht, hb⟩ := h v hv
  exact ⟨t, n, d, e, s _ _ ht, hb⟩
theorem Pool.snoc {M : Hp} {vs : List V} {t : Addr} {n d : Int} (h : Pool M vs) (ht : M t = some (.tup [.int n, .int d])) (hb : BigQ (n, d)) : Pool M (vs ++ [.ref t]) := fun v hv => by
  rcases List.mem_append.mp hv with hv | hv
  · exact h v hv
  · exact ⟨t, n, d, List.mem_singleton.mp hv, ht, hb⟩
theorem Dq.pr {H : Hp} {t : Addr} {x y : Int} (h : H t = some (.tup [.int x, .int y])) : Dq H (.ref t) (.tup [.int x, .int y]) := .tup h (.cons (.int _) (.cons (.int _) .nil))
section
variable {H : Hp} {Q : VK} {l a : Addr} {xs zs : List V}
theorem g_catK (k : ∀ p, H p = none → Q (.ref p) (upd H p (.lst (xs ++ zs)))) (h : H l = some (.lst xs)) (h' : H a = some (.lst zs)) (s : xs.length + zs.length ≤ 100000) : rCat (.ref l) (.ref a) H Q := ⟨l, a, xs, zs, rfl, rfl, h, h', small_line s, k⟩
theorem g_isB {x y : Bool} (q : Q (.bl (decide (x = y))) H) : rIsB (.bl x) (.bl y) H Q := ⟨x, y, rfl, rfl, q⟩
end
/-! lists and tuples of lists; one of two promises -/
def rgListOf (K : Fg) : List V → Hp → VK → Prop := fun xs H Q => ∃ (p : Addr) (ys : List V), xs = [.ref p] ∧ (SqL K H p ys ∨ SqT K H p ys) ∧ ∀ l, H l = none → Q (.ref l) (upd H l (.lst ys))
theorem cg_listOf {X : Cx} (K : Fg) (h : X.K = K := by rfl) : CallR X (.type "list") (rgListOf K) := h ▸ call_list_of
def rgTupOf (K : Fg) : List V → Hp → VK → Prop := fun xs H Q => ∃ (p : Addr) (ys : List V), xs = [.ref p] ∧ ((SqL K H p ys ∧ ∀ l, H l = none → Q (.ref l) (upd H l (.tup ys))) ∨ SqT K H p ys ∧ Q (.ref p) H)
theorem cg_tupOf {X : Cx} (K : Fg) (h : X.K = K := by rfl) : CallR X (.type "tuple") (rgTupOf K) := h ▸ call_tuple_of
section
variable {K : Fg} {H : Hp} {Q : VK} {p : Addr} {ys : List V}
theorem g_listOf (q : ∀ l, H l = none → Q (.ref l) (upd H l (.lst ys))) (h : SqL K H p ys) : rgListOf K [.ref p] H Q := ⟨p, ys, rfl, .inl h, q⟩
theorem g_tupOf (q : ∀ l, H l = none → Q (.ref l) (upd H l (.tup ys))) (h : SqL K H p ys) : rgTupOf K [.ref p] H Q := ⟨p, ys, rfl, .inl ⟨h, q⟩⟩
end
theorem fnOk_or {P : Program} {w : World} {K : Fg} {mg : Str → Option Value} {base : Heap} {CX : CXT} {k : Nat} {f : Addr} {fd : FuncData} {ps : List Str} {sp sp' : Sp} (h : FnOk P w K mg base CX k f fd ps sp) (h' : FnOk P w K mg base CX k f fd ps sp') :
    FnOk P w K mg base CX k f fd ps fun vs H Q E => sp vs H Q E ∨ sp' vs H Q E :=
  ⟨fun _ _ _ _ z => z.elim (h.len _ _ _ _) (h'.len _ _ _ _), fun A outer s H args us vs Q E a b c d z => z.elim (h.run A outer s H args us vs Q E a b c d) (h'.run A outer s H args us vs Q E a b c d)⟩
end Ko

/-! Iterators that end while an exception is handled -/
namespace Ko
open PySem L2 L2H PySem.Spec PyProof.Rows HotX
section
variable {prog : Program} {w : World} {A : Around} {E : Value → Shared → Prop} {s : Shared} {x1 : Addr}
/-- another object than the one that is handled: it has not three fields -/
theorem hot_ne {h : Heap} {b : Addr} {o : Obj} {vs : Array Value} (hot : HotAt A x1 h) (e : h.get? b = some o) (d : o.data = .fields vs) (z : vs[2]? ≠ some Value.none) : x1 ≠ b := by
  obtain ⟨_, o1, v1, h1, d1, c1⟩ := hot
  intro q
  rw [q, e] at h1
  cases h1
  rw [d] at d1
  cases d1
  exact z c1
theorem hot_ne_cls {h : Heap} {b : Addr} {o : Obj} (hot : HotAt A x1 h) (e : h.get? b = some o) (d : ∀ vs, o.data = .fields vs → False) : x1 ≠ b := by
  obtain ⟨_, o1, v1, h1, d1, _⟩ := hot
  intro q
  rw [q, e] at h1
  cases h1
  exact d _ d1
theorem hot_keep {h h' : Heap} (hot : HotAt A x1 h) (k : ∀ o, h.get? x1 = some o → h'.get? x1 = some o) : HotAt A x1 h' := by
  obtain ⟨hh, o1, v1, h1, q⟩ := hot
  exact ⟨hh, o1, v1, k _ h1, q⟩
/-- StopIteration, raised there -/
theorem stop_hot {α : Type} {Q : α → Shared → Prop} (hot : HotAt A x1 s.heap)
    (hE : ∀ h' e, (∀ b o, s.heap.get? b = some o → h'.get? b = some o) → (∃ o, h'.get? e = some o ∧ o.cls = .type "StopIteration") → E (.ref e) { s with heap := h' }) :
    wpAny (model prog w) A (newExc (.type "StopIteration") [] >>= fun e => (raiseNew e : Sem α)) Q E s := by
  obtain ⟨hh, o1, v1, h1, d1, c1⟩ := hot
  refine wpAny_bind ?_
  simp only [newExc, newTuple]
  refine wpAny_bind (wpAny_newObj_type (wpAny_bind (m := firstArgMember _ _) (wpAny_of_eq (a := Value.none) (by first | rfl | (simp only [firstArgMember]; rfl)) (wpAny_newObj_type ?_ (by size_fits)))) (by size_fits))
  have k1 := Heap.get?_push_of_some { cls := .type "StopIteration", data := .fields #[.ref s.heap.objs.size, .none, .none, .none, .bool false] } (Heap.get?_push_of_some { cls := .type "tuple", data := .seq ([] : List Value).toArray } h1)
  refine raiseNew_hot ⟨hh, o1, v1, Heap.get?_push_of_some _ (Heap.get?_push_of_some _ h1), d1, c1⟩ (Nat.ne_of_lt (Heap.lt_size (Heap.get?_push_of_some _ h1))) (Heap.get?_push_size _ rfl) rfl (by first | (simp; done) | (simp; omega) | (simp only [Array.size_append]; simp; omega)) ?_
  refine hE _ _ (fun b o e => ?_) ⟨_, Heap.get?_update_self _ (Heap.get?_push_size _ rfl) rfl, rfl⟩
  have e2 := Heap.get?_push_of_some { cls := .type "tuple", data := .seq ([] : List Value).toArray } e
  rw [Heap.get?_update_other _ _ (Nat.ne_of_gt (Heap.lt_size e2))]
  exact Heap.get?_push_of_some _ e2
/-- an iterator over items that lie in a row, at its end -/
theorem rowit_hot {f : Builtin} (one : f = Builtin.«list_iterator.__next__» ∨ f = Builtin.«tuple_iterator.__next__») {it t : Addr} {i : Nat} {items : Array Value} {o ot : Obj} {n : Nat} {Q : Fin → Shared → Prop} (hot : HotAt A x1 s.heap) (io : s.heap.get? it = some o)
    (di : o.data = .fields #[.ref t, .int i 0]) (to : s.heap.get? t = some ot) (dt : ot.data = .seq items n) (no : items[i]? = none)
    (k : ∀ h' e, Heap.ExtBut it s.heap h' → (∃ u, h'.get? e = some u ∧ u.cls = .type "StopIteration") → E (.ref e) { s with heap := h' }) : wpAny (model prog w) A (f ⟨[.ref it], []⟩) Q E s := by
  have other := hot_ne hot io di (by simp)
  have some_t : ¬ ((Value.ref t == Value.none) = true) := Bool.false_ne_true
  have end_ : ∀ h' e, (∀ b u, (s.heap.update it (Obj.mapFields (·.setIfInBounds 0 .none))).get? b = some u → h'.get? b = some u) → (∃ u, h'.get? e = some u ∧ u.cls = .type "StopIteration") → E (.ref e) { s with heap := h' } :=
    fun h' e up z => k h' e (fun b u hb q => up b u ((Heap.SameBut.update ..).extBut b u hb q)) z
  have hot2 : HotAt A x1 (s.heap.update it (Obj.mapFields (·.setIfInBounds 0 .none))) := hot_keep hot fun o1 e1 => by
    rw [Heap.get?_update_other _ _ other.symm]
    exact e1
  rcases one with rfl | rfl
  all_goals
    refine wpAny_bind (m := field (.ref it) 0) (wpAny_field io di (x := .ref t) rfl (?_ : wpAny _ _ (if (Value.ref t == Value.none) = true then _ else _) _ _ s))
    rw [if_neg some_t]
    refine wpAny_bind (m := field (.ref it) 1) (wpAny_field io di (x := .int i 0) rfl (wpAny_bind (m := seqItems? (.ref t)) (wpAny_seqItems to dt ?_)))
    simp only [no, Int.toNat_natCast]
    exact wpAny_bind (wpAny_rule (wpAny_bind (wpAny_setField io di (by simp) (stop_hot hot2 end_))))
theorem tupit_hot {it t : Addr} {i : Nat} {items : Array Value} {Q : Fin → Shared → Prop} (hot : HotAt A x1 s.heap) (hit : IsTupIter s.heap it t i) (ht : IsTup s.heap t items) (no : items[i]? = none)
    (k : ∀ h' e, Heap.ExtBut it s.heap h' → (∃ u, h'.get? e = some u ∧ u.cls = .type "StopIteration") → E (.ref e) { s with heap := h' }) : wpAny (model prog w) A (Builtin.«tuple_iterator.__next__» ⟨[.ref it], []⟩) Q E s := by
  obtain ⟨o, io, _, di⟩ := hit
  obtain ⟨ot, to, _, n, dt⟩ := ht
  exact rowit_hot (.inr rfl) hot io di to dt no k
theorem lstit_hot {it l : Addr} {i : Nat} {items : Array Value} {Q : Fin → Shared → Prop} (hot : HotAt A x1 s.heap) (hit : s.heap.IsListIter it l i) (hl : s.heap.IsList l items) (no : items[i]? = none)
    (k : ∀ h' e, Heap.ExtBut it s.heap h' → (∃ u, h'.get? e = some u ∧ u.cls = .type "StopIteration") → E (.ref e) { s with heap := h' }) : wpAny (model prog w) A (Builtin.«list_iterator.__next__» ⟨[.ref it], []⟩) Q E s := by
  obtain ⟨o, io, _, di⟩ := hit
  obtain ⟨ol, to, _, n, dt⟩ := hl
  exact rowit_hot (.inl rfl) hot io di to dt no k
theorem next_tup_hot {it t : Addr} {i : Nat} {items : Array Value} {Q : Option Value → Shared → Prop} (hot : HotAt A x1 s.heap) (hit : IsTupIter s.heap it t i) (ht : IsTup s.heap t items) (hx : items[i]? = none)
    (q : ∀ h', Heap.ExtBut it s.heap h' → Q none { s with heap := h' }) : wpAny (model prog w) A (pyNext (.ref it)) Q E s := by
  unfold pyNext
  refine wpAny_bind (wpAny_attempt (wpAny_callSpecial?_slot (name := Str.ofString "__next__") hit.typeIs slot_tupleiter_next (wpAny_call_entry slot_tupleiter_next hit.typeIs entry_tupleiter_next (tupit_hot hot hit ht hx fun h' e k he => ?_) (args_tupleiter_next _))))
  obtain ⟨o, ho, hc⟩ := he
  exact wpAny_bind (wpAny_isInstance (T := "StopIteration") (b := true) ⟨o, ho, hc⟩ isSubtype_stop (wpAny_pure (q _ k)))
theorem next_lst_hot {it l : Addr} {i : Nat} {items : Array Value} {Q : Option Value → Shared → Prop} (hot : HotAt A x1 s.heap) (hit : s.heap.IsListIter it l i) (hl : s.heap.IsList l items) (hx : items[i]? = none)
    (q : ∀ h', Heap.ExtBut it s.heap h' → Q none { s with heap := h' }) : wpAny (model prog w) A (pyNext (.ref it)) Q E s := by
  unfold pyNext
  refine wpAny_bind (wpAny_attempt (wpAny_callSpecial?_slot (name := Str.ofString "__next__") hit.typeIs slot_listiter_next (wpAny_call_entry slot_listiter_next hit.typeIs entry_listiter_next (lstit_hot hot hit hl hx fun h' e k he => ?_) (args_listiter_next _))))
  obtain ⟨o, ho, hc⟩ := he
  exact wpAny_bind (wpAny_isInstance (T := "StopIteration") (b := true) ⟨o, ho, hc⟩ isSubtype_stop (wpAny_pure (q _ k)))
/-- the targets of a tuple take its items -/
theorem unpack_hot {t : Addr} {items : Array Value} {Q : List Value → Shared → Prop} (hot : HotAt A x1 s.heap) (ht : IsTup s.heap t items) (q : ∀ h', Heap.ExtBut s.heap.objs.size s.heap h' → Q items.toList { s with heap := h' }) :
    wpAny (model prog w) A (unpackItems (.ref t) items.size none) Q E s := by
  have lt : t ≠ s.heap.objs.size := by
    obtain ⟨o, ho, _⟩ := ht
    exact Nat.ne_of_lt (Heap.lt_size ho)
  have x1l : x1 ≠ s.heap.objs.size := by
    obtain ⟨_, o, _, ho, _⟩ := hot
    exact Nat.ne_of_lt (Heap.lt_size ho)
  unfold unpackItems
  refine wpAny_bind ?_
  unfold notIterableAtAll
  refine wpAny_bind (wpAny_specialOf ht.typeIs slot_tuple_iter.lookup (wpAny_pure ?_))
  rw [if_neg (by decide)]
  refine wpAny_bind (wpAny_holding (iter_tuple ht (wpAny_bind (wpAny_holding (draw_tuple lt items.size 0 _ _ ⟨_, Heap.get?_push_size _ rfl, rfl, rfl⟩ (ht.push _) (by omega) fun h1 i1 k1 => ?_)))))
  have all : (items.toList.drop 0).take items.size = items.toList := List.take_of_length_le (by simp)
  rw [all, if_neg (by simp)]
  have hot1 : HotAt A x1 h1 := hot_keep hot fun o e => k1.extBut _ _ x1l (Heap.get?_push_of_some _ e)
  refine wpAny_bind (wpAny_holding (next_tup_hot hot1 i1 ((ht.push _).extBut k1.extBut lt) (by simp) fun h2 k2 => ?_))
  rw [if_neg (by simp)]
  exact wpAny_pure (q h2 fun b o hb e => k2 b o hb (k1.extBut b o hb (Heap.get?_push_of_some _ e)))
theorem assign_hot {env : Env} {elts : List Expr} {k : Nat} {pos : Pos} {t : Addr} {items : Array Value} {Q : Unit → Shared → Prop} (hot : HotAt A x1 s.heap) (ht : IsTup s.heap t items)
    (hn : (assignEach elts env).length = items.size) (st : (assignEach elts env).findIdx? (·.1) = none)
    (q : ∀ h', Heap.ExtBut s.heap.objs.size s.heap h' → wpAny (model prog w) A (assignInOrder ((assignEach elts env).map (·.2)) items.toList) Q E { s with heap := h' }) : wpAny (model prog w) A (assign (.Tuple elts k pos) env (.ref t)) Q E s := by
  rw [assign_Tuple]
  refine wpAny_bind (wpAny_standAt ?_)
  unfold unpack
  rw [hn, st]
  exact wpAny_bind (wpAny_holding (unpack_hot hot ht q))
end
end Ko

/-! zip of two tuples, all of a list, a comprehension, while an exception is handled -/
namespace Ko
open PySem L2 L2H PySem.Spec PyProof.Rows HotX RZ
section
variable {prog : Program} {w : World} {A : Around} {E : Value → Shared → Prop} {s : Shared} {x1 : Addr}
theorem nextOf_hot {it t : Addr} {i : Nat} {items : Array Value} {Q : Value → Shared → Prop} (hot : HotAt A x1 s.heap) (hit : s.heap.IsTupleIter it t i) (ht : s.heap.IsTuple t items) (hx : items[i]? = none)
    (hE : ∀ h' e, Heap.ExtBut it s.heap h' → (∃ o, h'.get? e = some o ∧ o.cls = .type "StopIteration") → E (.ref e) { s with heap := h' }) : wpAny (model prog w) A (Builtin.SmallTypes.nextOf (.ref it)) Q E s := by
  unfold Builtin.SmallTypes.nextOf
  exact wpAny_bind (wpAny_callSpecial?_slot (name := Str.ofString "__next__") hit.typeIs F.slot_tuple_iterator_next (wpAny_call_entry F.slot_tuple_iterator_next hit.typeIs F.entry_tuple_iterator_next (tupit_hot hot hit ht hx hE) (F.args_tuple_iterator_next_1 _)))
theorem hot_it {h : Heap} {it t : Addr} {i : Nat} (hot : HotAt A x1 h) (hit : h.IsTupleIter it t i) : x1 ≠ it := by
  obtain ⟨o, ho, _, hd⟩ := hit
  exact hot_ne hot ho hd (by simp)
/-- one of the two is at its end -/
theorem zip_hot {q tin out j1 j2 t1 t2 : Addr} {n1 n2 : Nat} {xs ys : Array Value} {u v : Value} {Q : Fin → Shared → Prop} (hot : HotAt A x1 s.heap) (D : ZipApart q tin out j1 j2 t1 t2) (zq : IsZip s.heap q tin out .none) (ztin : IsPair s.heap tin (.ref j1) (.ref j2))
    (zout : IsPair s.heap out u v) (i1 : s.heap.IsTupleIter j1 t1 n1) (i2 : s.heap.IsTupleIter j2 t2 n2) (l1 : s.heap.IsTuple t1 xs) (l2 : s.heap.IsTuple t2 ys) (over : xs[n1]? = none ∨ ys[n2]? = none)
    (hE : ∀ h' e, (∀ c o, c ≠ q → c ≠ out → c ≠ j1 → c ≠ j2 → s.heap.get? c = some o → h'.get? c = some o) → (∃ o, h'.get? e = some o ∧ o.cls = .type "StopIteration") → E (.ref e) { s with heap := h' }) :
    wpAny (model prog w) A (Builtin.«zip.__next__» ⟨[.ref q], []⟩) Q E s := by
  have nq : x1 ≠ q := hot_ne hot zq rfl (by simp)
  have nout : x1 ≠ out := hot_ne_cls hot zout fun vs z => by cases z
  have nj1 := hot_it hot i1
  refine wpAny_bind (m := field (.ref q) 2) (wpAny_field zq rfl (x := .bool false) rfl (wpAny_bind (m := field (.ref q) 3) (wpAny_field zq rfl (x := .ref tin) rfl (wpAny_bind (wpAny_seqItems ztin rfl ?_)))))
  refine wpAny_bind (m := Builtin.SmallTypes.ownedTupleIsFree (.ref q)) ?_
  unfold Builtin.SmallTypes.ownedTupleIsFree
  refine wpAny_bind (m := field (.ref q) 0) (wpAny_field zq rfl (x := .none) rfl (wpAny_pure ?_))
  simp only [if_true]
  refine wpAny_bind (wpAny_rule (wpAny_bind (m := field (.ref q) 4) (wpAny_field zq rfl (x := .ref out) rfl (wpAny_bind (wpAny_setField_rec zq (by simp) fun ha za ka => ?_)))))
  replace za : IsZip ha q tin out .ellipsis := za
  have hota : HotAt A x1 ha := hot_keep hot fun o e => ka.extBut _ _ nq e
  refine wpAny_bind ?_
  simp only [List.zipIdx_cons, List.zipIdx_nil, List.forIn_cons, List.forIn_nil]
  refine wpAny_bind (wpAny_bind (wpAny_onRaise (wpAny_bind (m := Builtin.SmallTypes.nextOf (.ref j1)) ?_)))
  have cls_ne : ∀ {h : Heap} {e : Addr} {o : Obj} {f : Value}, IsZip h q tin out f → h.get? e = some o → o.cls = .type "StopIteration" → e ≠ q := fun {h e o f} z g c x => by
    subst x
    rw [z] at g
    cases g
    simp at c
  cases e1 : xs[n1]? with
  | none =>
    refine nextOf_hot hota (i1.extBut ka.extBut D.i1z) (l1.extBut ka.extBut D.l1z) e1 fun hb e kb he => ?_
    obtain ⟨oe, ge, ce⟩ := he
    have zb : IsZip hb q tin out .ellipsis := kb _ _ D.i1z.symm za
    exact wpAny_setField_rec zb (by simp) fun hc _ kc => hE hc e (fun c o c1 _ c3 _ g => kc.extBut _ _ c1 (kb _ _ c3 (ka.extBut _ _ c1 g))) ⟨oe, kc.extBut _ _ (cls_ne zb ge ce) ge, ce⟩
  | some x =>
    have e2 : ys[n2]? = none := over.elim (fun z => by rw [z] at e1; cases e1) id
    refine nextOf_tuple_item (i1.extBut ka.extBut D.i1z) (l1.extBut ka.extBut D.l1z) e1 fun hb ib kb => wpAny_pure ?_
    have hotb : HotAt A x1 hb := hot_keep hota fun o e => kb.extBut _ _ nj1 e
    have zob : IsPair hb out u v := kb.extBut _ _ D.TOi1 (ka.extBut _ _ D.TOz zout)
    refine wpAny_bind (wpAny_seqItems zob rfl (wpAny_bind (wpAny_updateSeq_pair zob fun hc zoc kc => wpAny_bind (wpAny_letGo (wpAny_pure ?_)))))
    have hotc : HotAt A x1 hc := hot_keep hotb fun o e => kc.extBut _ _ nout e
    refine wpAny_bind (wpAny_bind (wpAny_onRaise (wpAny_bind (m := Builtin.SmallTypes.nextOf (.ref j2)) ?_)))
    refine nextOf_hot hotc (((i2.extBut ka.extBut D.i2z).extBut kb.extBut D.i12.symm).extBut kc.extBut D.TOi2.symm) (((l2.extBut ka.extBut D.l2z).extBut kb.extBut D.l2i1).extBut kc.extBut D.l2TO) e2 fun hd e kd he => ?_
    obtain ⟨oe, ge, ce⟩ := he
    have zd : IsZip hd q tin out .ellipsis := kd _ _ D.i2z.symm (kc.extBut _ _ D.TOz.symm (kb.extBut _ _ D.i1z.symm za))
    exact wpAny_setField_rec zd (by simp) fun hf _ kf => hE hf e (fun c o c1 c2 c3 c4 g => kf.extBut _ _ c1 (kd _ _ c4 (kc.extBut _ _ c2 (kb.extBut _ _ c3 (ka.extBut _ _ c1 g))))) ⟨oe, kf.extBut _ _ (cls_ne zd ge ce) ge, ce⟩
theorem next_zip_hot {q tin out j1 j2 t1 t2 : Addr} {n1 n2 : Nat} {xs ys : Array Value} {u v : Value} {Q : Option Value → Shared → Prop} (hot : HotAt A x1 s.heap) (D : ZipApart q tin out j1 j2 t1 t2) (zq : IsZip s.heap q tin out .none) (ztin : IsPair s.heap tin (.ref j1) (.ref j2))
    (zout : IsPair s.heap out u v) (i1 : s.heap.IsTupleIter j1 t1 n1) (i2 : s.heap.IsTupleIter j2 t2 n2) (l1 : s.heap.IsTuple t1 xs) (l2 : s.heap.IsTuple t2 ys) (over : xs[n1]? = none ∨ ys[n2]? = none)
    (k : ∀ h', (∀ c o, c ≠ q → c ≠ out → c ≠ j1 → c ≠ j2 → s.heap.get? c = some o → h'.get? c = some o) → Q none { s with heap := h' }) : wpAny (model prog w) A (pyNext (.ref q)) Q E s := by
  have ty : s.TypeIs (.ref q) "zip" := ⟨_, zq, rfl⟩
  unfold pyNext
  refine wpAny_bind (wpAny_attempt (wpAny_callSpecial?_slot (name := Str.ofString "__next__") ty F.slot_zip_next (wpAny_call_entry F.slot_zip_next ty F.entry_zip_next (zip_hot hot D zq ztin zout i1 i2 l1 l2 over fun h' e g he => ?_) (F.args_zip_next_1 _))))
  obtain ⟨o, ho, hc⟩ := he
  exact wpAny_bind (wpAny_isInstance (T := "StopIteration") (b := true) ⟨o, ho, hc⟩ isSubtype_stop (wpAny_pure (k _ g)))
/-- a list's iterator walks -/
theorem walks_hot (I ax : Addr) (hne : ax ≠ I) (items : Array Value) : Walks prog w A I [I, ax, x1] [I] items.size (fun i v => items[i]? = some v) (fun i h => h.IsListIter I ax i ∧ h.IsList ax items ∧ HotAt A x1 h) where
  sub := fun b hb => by
    rw [List.mem_singleton.mp hb]
    simp
  frame := fun i h h' z k => ⟨z.1.at fun o => k I (by simp) o, z.2.1.at fun o => k ax (by simp) o, hot_keep z.2.2 fun o => k x1 (by simp) o⟩
  item := fun i s Q E hi z k => by
    have ne : x1 ≠ I := by
      obtain ⟨o, ho, _, hd⟩ := z.1
      exact hot_ne z.2.2 ho hd (by simp)
    refine wpAny_pyNext_list_item z.1 z.2.1 (x := items[i]) (by simp [hi]) fun h' a c => ?_
    exact k _ h' s.toks (by simp [hi]) ⟨a, z.2.1.extBut c.extBut hne, hot_keep z.2.2 fun o e => c.extBut _ _ ne e⟩ fun b o hb e => c.extBut b o (fun y => hb (by simp [y])) e
  done := fun s Q E z k => next_lst_hot z.2.2 z.1 z.2.1 (by simp) fun h' c => k h' s.toks fun b o hb e => c b o (fun y => hb (by simp [y])) e
  self := fun i s Q E z k => wpAny_pyIter_listiter z.1 k
end
section
variable {X : Cx}
theorem cr_allH (K : Fg) (hc : HotC X) (hK : X.K = K := by rfl) : CallR X (.builtin "all") (rAll K) := by
  subst hK
  intro pins s σ H vs us Q I r h
  obtain ⟨a, bs, rfl, hs, q⟩ := h
  obtain ⟨its, rv, hl, _⟩ := I.list hs
  obtain ⟨x1, hot⟩ := hc.at I
  rw [Vals.ref1 r]
  have hb := rv.bls
  refine call_all_walk (iter_any hl.isList fun t e z ne => ?_)
  subst e
  have hot1 : HotAt X.A.in1 x1 (s.heap.push { cls := .type "list_iterator", data := .fields #[.ref a, .int 0 0] }) := hot_keep (A := X.A.in1) hot fun o e => Heap.get?_push_of_some _ e
  refine ⟨_, _, _, _, _, _, _, rfl, walks_hot (A := X.A.in1) (x1 := x1) _ a ne its.toArray, ⟨z.1, z.2, hot1⟩, truth_bools hb, fun h' tk k => ?_⟩
  refine ⟨.bl _, H, I.kept fun b o eo => k b o (fun m => absurd (List.mem_singleton.mp m ▸ Heap.lt_size eo) (Nat.lt_irrefl _)) (Heap.get?_push_of_some _ eo), ?_, q⟩
  show Value.bool _ = Value.bool _
  rw [← L2.all_range, hb, List.size_toArray, List.length_map]
theorem pg_tupH {es : List Expr} {k : Nat} {pos : Pos} {t : TGs} {n : Nat} (hc : HotC X) (h : PGs X es t) (hn : (assignEach es X.env).length = n := by rfl) (st : (assignEach es X.env).findIdx? (·.1) = none := by rfl) : PG X (.Tuple es k pos) (gTup X.K n t) := by
  refine ⟨fun pins s σ H v u Q I r hw => ?_⟩
  obtain ⟨a, xs, rfl, sq, hl, z⟩ := hw
  cases r
  obtain ⟨its, rv, tp, _⟩ := I.tuple sq
  obtain ⟨x1, hot⟩ := hc.at I
  refine assign_hot hot tp (by simp [hn, ← hl, rv.length]) st fun h' e => ?_
  exact h.run pins _ σ H xs _ Q (I.kept (t' := s.toks) fun b o g => e b o (Nat.ne_of_lt (Heap.lt_size g)) g) (by simpa using rv) z
end
theorem turn_zipH {P : Program} {w : World} {K : PySem.W.Frag} {elts : List Expr} {kk : Nat} {pt : Pos} {a b q tin out j1 j2 : Addr} (D : ZipApart q tin out j1 j2 a b) :
    TurnH P w K (.Tuple elts kk pt) (ItzT K a b) [q, tin, out, j1, j2] q (fun i h => IsZip h q tin out .none ∧ IsPair h tin (.ref j1) (.ref j2) ∧ (∃ x y, IsPair h out x y) ∧ h.IsTupleIter j1 a i ∧ h.IsTupleIter j2 b i) where
  mem := by simp
  obj := (turn_zipT (P := P) (w := w) (K := K) (elts := elts) (kk := kk) (tpos := pt) D).obj
  keep := (turn_zipT (P := P) (w := w) (K := K) (elts := elts) (kk := kk) (tpos := pt) D).keep
  item := by
    rintro X rfl rfl rfl hc i pins s σ H E I hf ⟨zq, zt, ⟨x0, y0, zo⟩, i1, i2⟩ ⟨xs, ys, x, y, sx, sy, gx, gy⟩
    obtain ⟨its, rv, p, _⟩ := I.tuple sx
    obtain ⟨its2, rv2, p2, _⟩ := I.tuple sy
    obtain ⟨u, hu, ru⟩ := rv.get gx
    obtain ⟨u2, hu2, ru2⟩ := rv2.get gy
    have ql : q < s.heap.objs.size := Heap.lt_size zq
    have lt : ∀ c ∈ [q, tin, out, j1, j2], c < s.heap.objs.size := fun c hm => by
      obtain ⟨o, e, _⟩ := (turn_zipT (P := X.prog) (w := X.w) (K := X.K) (elts := elts) (kk := kk) (tpos := pt) D).obj i s.heap ⟨zq, zt, ⟨x0, y0, zo⟩, i1, i2⟩ c hm
      exact Heap.lt_size e
    refine pyNext_zipT_item D zq zt zo i1 i2 p p2 (x := u) (y := u2) (by simpa using hu) (by simpa using hu2) fun h1 zq1 zo1 i11 i21 nt sz k => ?_
    refine ⟨_, rfl, wpAny_letOwnedTupleGo_zip (s := { s with heap := h1 }) zq1 fun h2 zq2 sb => ?_⟩
    have nt2 : h2.get? s.heap.objs.size = some { cls := .type "tuple", data := .seq #[u, u2] } := (sb.2 _ (Nat.ne_of_gt ql)).trans nt
    have out5 : ∀ c o, c ∉ [q, tin, out, j1, j2] → s.heap.get? c = some o → h2.get? c = some o := fun c o hb g => by
      simp only [List.mem_cons, List.not_mem_nil, or_false, not_or] at hb
      exact (sb.2 c hb.1).trans (k c o hb.1 hb.2.2.1 hb.2.2.2.1 hb.2.2.2.2 g)
    have I1 : Inv X pins σ (upd H s.heap.objs.size (.tup [x, y])) { s with heap := h2 } :=
      I.turnedNew (t' := s.toks) out5 hf (Nat.le_refl _) ⟨by show 2 ≤ sizeLine; decide, [u, u2], .cons ru (.cons ru2 .nil), ⟨_, nt2, rfl, _, rfl⟩⟩
    refine ⟨.ref s.heap.objs.size, _, I1, rfl, ⟨_, x, y, rfl, I.hok.fresh (Nat.le_refl _), rfl, fun l e => (I.tuple_inj e sx).symm ▸ gx, fun l e => (I.tuple_inj e sy).symm ▸ gy⟩, ⟨zq2, ?_, ⟨u, u2, ?_⟩, ?_, ?_⟩, fun c hm => ?_⟩
    · exact (sb.2 _ D.TIz).trans (k _ _ D.TIz D.TITO D.TIi1 D.TIi2 zt)
    · exact (sb.2 _ D.TOz).trans zo1
    · exact i11.at fun o g => (sb.2 _ D.i1z).trans g
    · exact i21.at fun o g => (sb.2 _ D.i2z).trans g
    · rw [upd_ne (Nat.ne_of_lt (lt c hm))]
      exact (hf c hm).1
  done := by
    rintro X rfl rfl rfl hc i pins s σ H E I hf ⟨zq, zt, ⟨x0, y0, zo⟩, i1, i2⟩ ⟨xs, ys, sx, sy, fin⟩
    obtain ⟨its, rv, p, _⟩ := I.tuple sx
    obtain ⟨its2, rv2, p2, _⟩ := I.tuple sy
    obtain ⟨x1, hot⟩ := hc.at I
    have n1 := rv.length
    have n2 := rv2.length
    have over : its.toArray[i]? = none ∨ its2.toArray[i]? = none := fin.imp (fun z => by simp; omega) (fun z => by simp; omega)
    refine next_zip_hot hot D zq zt zo i1 i2 p p2 over fun h' k => ⟨rfl, I.turnedL (t' := s.toks) (ch := [q, tin, out, j1, j2]) (fun c o hb g => ?_) hf⟩
    simp only [List.mem_cons, List.not_mem_nil, or_false, not_or] at hb
    exact k c o hb.1 hb.2.2.1 hb.2.2.2.1 hb.2.2.2.2 g
  self := fun A i s Q E z k => wpAny_pyIter_zip z.1 k
def iZipH (K : PySem.W.Frag) (ta : TA) : TI := fun σ H R => ta σ H fun vs H1 => ∃ a b xs ys, vs = [.ref a, .ref b] ∧ SqT K H1 a xs ∧ SqT K H1 b ys ∧ R (ItzT K a b) H1
theorem pi_zipH {X : Cx} {e e2 : Expr} {ta : TA} {p pos pt : Pos} {elts : List Expr} {kk : Nat} (hg : Gl X "zip") (hm : X.mg "zip" = none) (ha : PA X [e, e2] ta)
    (hs : starEach [e, e2] X.env = (false, eval e X.env) :: starEach [e2] X.env := by rfl) (hpl : (backTo pos (starEach [e2] X.env)).any (·.1) = false := by rfl) :
    PIH X (.Tuple elts kk pt) (.Call (.Name "zip" p) [e, e2] [] pos) (iZipH X.K ta) := by
  refine ⟨fun pins s σ H R I h => Call_ (ld_blt I hg hm PyProof.Rows.boot_zip (PyProof.Rows.callWith_type1 (thn (ha.run pos pins s σ H _ I h) fun us s1 z => ?_) hs hpl))⟩
  obtain ⟨vs, H1, I1, r1, a, b, xs, ys, rfl, sx, sy, q⟩ := z
  obtain ⟨u1, u2, rfl, r1, r2⟩ := vals2 r1
  cases r1
  cases r2
  obtain ⟨its, rv, p1, _⟩ := I1.tuple sx
  obtain ⟨its2, rv2, p2, _⟩ := I1.tuple sy
  obtain ⟨o1, g1, _⟩ := id p1
  obtain ⟨o2, g2, _⟩ := id p2
  generalize hn : s1.heap.objs.size = n
  have new5 : ∀ c ∈ [n + 4, n + 2, n + 3, n, n + 1], FpOk X pins H1 c := fun c hm => by
    have le : n ≤ c := by
      simp only [List.mem_cons, List.not_mem_nil, or_false] at hm
      omega
    rw [← hn] at le
    exact I1.fpOk le (I1.hok.fresh le)
  refine call_zipT (show s1.heap.IsTuple a its.toArray from p1) (show s1.heap.IsTuple b its2.toArray from p2) fun h' c1 c2 c3 c4 c5 c6 k => ?_
  rw [hn] at c1 c2 c3 c4 c5 ⊢
  refine wpAny_pyIter_zip c1 ⟨n + 4, [n + 4, n + 2, n + 3, n, n + 1], _, _, H1, rfl, I1.kept (t' := s1.toks) k, turn_zipH (PySem.W.ktu_apart n a b (hn ▸ Heap.lt_size g1) (hn ▸ Heap.lt_size g2)), ⟨c1, c2, ⟨_, _, c3⟩, c4, c5⟩, new5, q⟩
end Ko

/-! A comprehension while an exception is handled -/
namespace Ko
open PySem L2 L2H PySem.Spec PyProof.Rows HotX RZ
/-- the block's context; the pins stay -/
abbrev bh (X : Cx) (s : Shared) (H : Hp) (scope : Scope) (env : Env) (fp : List Addr) : Cx := (X.blk s H scope env fp).tr X.pn fun _ _ => False
theorem hotC_bh {X : Cx} {s : Shared} {H : Hp} {scope : Scope} {env : Env} {fp : List Addr} (hc : HotC X) : HotC (bh X s H scope env fp) := hc
theorem loop_hot {B : Cx} {it D : Addr} {fp : List Addr} {tn : Nat → Heap → Prop} {J : It} {W : Nat → Nat → Hp → Prop} {elt tg iter : Expr} {scope : Scope} {pos : Pos} {g : TG} {te : TE} {vs : List Nat} {σ : Sg} {H3 : Hp} {Qd : Hp → Prop} {m0 : Nat} {s4 : Shared} {R : Result → Shared → Prop}
    (hc : HotC B) (nx : ∀ e s, B.xe e s → False) (T : TurnH B.prog B.w B.K tg J fp it tn) (pg : PG B tg g) (pe : PE B elt te) (ex : B.ex = fp) (noP : ∀ p ∈ B.pn, ∀ b ∈ fp, p.1 ≠ b)
    (turn : ∀ i m H, W i m H → (J.stop i H ∧ Qd H) ∨ (J.go i H ∧ ∃ Nx : Hp → Prop, (∀ H', Nx H' → ∃ m', m' < m ∧ W (i + 1) m' H') ∧ ∀ x H', J.yld i H x H' → g x (wipe σ vs) H' fun σ2 H2 => wipe σ2 vs = wipe σ vs ∧ tYes σ2 H2 fun b H3 =>
      if b = true then te σ2 H3 fun y H4 => ∃ acc, H4 D = some (.lst acc) ∧ acc.length < sizeLine ∧ Nx (upd H4 D (.lst (acc ++ [y]))) else Nx H3))
    (fin : ∀ s' H', Inv B [] (wipe σ vs) H' s' → Qd H' → R (.ok .next) s') (I4 : Inv B [] (wipe σ vs) H3 s4) (st4 : tn 0 s4.heap) (n4 : ∀ b ∈ fp, H3 b = none) (w4 : W 0 m0 H3) :
    codeAny (model B.prog B.w) B.A (.compLoop (.ListComp elt [⟨tg, iter, [], 0⟩] scope pos) 0 (.ref it) (.ref D) B.env) R s4 := by
  have go : ∀ {α : Type} {t : Sem α} {Q : α → Shared → Prop} {E : Value → Shared → Prop} {s : Shared}, wpAny (model B.prog B.w) B.A t Q B.xe s → wpAny (model B.prog B.w) B.A t Q E s := fun h => wpAny_mono h (fun _ _ z => z) fun e s z => (nx e s z).elim
  have okp : ∀ {σ' : Sg} {H' : Hp} {s' : Shared}, Inv B [] σ' H' s' → (∀ b ∈ fp, H' b = none) → ∀ b ∈ fp, FpOk B [] H' b := fun {σ' H' s'} I' hn b hb => by
    have hb' : b ∈ B.ex := ex.symm ▸ hb
    exact ⟨hn b hb, (I'.ok.exf b hb').1, I'.ok.exfs b hb', .inl hb', (I'.ok.exf b hb').2, fun p hp => noP p (by rw [List.append_nil] at hp; exact hp) b hb⟩
  refine compLoop_any (fun n s' => ∃ i H', Inv B [] (wipe σ vs) H' s' ∧ tn i s'.heap ∧ (∀ b ∈ fp, H' b = none) ∧ W i n H') (fun n s5 z => ?_) m0 ⟨0, H3, I4, st4, n4, w4⟩
  obtain ⟨i, H5, I5, st5, n5, w5⟩ := z
  rcases turn i n H5 w5 with ⟨halt, qq⟩ | ⟨more, Nx, hNx, step⟩
  · refine thnF (T.done B rfl rfl rfl hc i [] s5 _ H5 (fun _ _ => False) I5 (okp I5 n5) st5 halt) fun r s6 z => ?_
    obtain ⟨rfl, I6⟩ := z
    exact fin s6 H5 I6 qq
  · refine thnF (T.item B rfl rfl rfl hc i [] s5 _ H5 (fun _ _ => False) I5 (okp I5 n5) st5 more) fun r s6 z => ?_
    obtain ⟨u, rfl, z⟩ := z
    refine thnF z fun _ s7 y => ?_
    obtain ⟨x, H7, I7, r7, y7, st7, n7⟩ := y
    refine go (thn (pg.run _ s7 _ H7 x u _ (I7.pinned (okp I7 n7) (T.obj _ _ st7)) r7 (step x H7 y7)) fun _ s8 y => ?_)
    obtain ⟨σ8, H8, I8, hw, q8⟩ := y
    refine wpAny_tests_nil ?_
    have q9 := q8
    simp only [tYes, if_true] at q9
    refine go (thn (pe.run _ s8 σ8 H8 _ I8 q9) fun v s9 y => ?_)
    obtain ⟨yv, H9, I9, r9, acc, hD, sz, nxt⟩ := y
    refine app_ok (X := B) I9 hD sz r9 fun sa Ia => ?_
    obtain ⟨m', lt, w'⟩ := hNx _ nxt
    have still : ∀ b ∈ fp, ∀ o, s7.heap.get? b = some o → sa.heap.get? b = some o ∧ upd H9 D (.lst (acc ++ [yv])) b = none := fun b hb o e =>
      let z := Ia.pin (b, o) (List.mem_append_right _ (List.mem_append_right _ (mem_pinsAt hb e)))
      ⟨z.1, z.2.1⟩
    refine ⟨m', lt, i + 1, _, (Ia.unpinned (pins := [])).weak ?_ (fun j v e => ?_), T.keep _ _ _ st7 fun b hb o e => (still b hb o e).1, fun b hb => ?_, w'⟩
    · rw [← hw, wipe_length]
    · rw [← hw] at e
      exact (wipe_some e).1
    · obtain ⟨o, e, _⟩ := T.obj _ _ st7 b hb
      exact (still b hb o e).2
theorem pe_lcH {X : Cx} {elt tg iter : Expr} {scope : Scope} {own : List (Str × Nat)} {pos : Pos} {wi : TI} {g : TG} {te : TE} (hc : HotC X) (hN : X.N.Nodup) (hi : PIH X tg iter wi) (ok : BlkOk X.N X.env.scope scope own)
    (hg : ∀ (s : Shared) (H : Hp) (C : Addr) (cl : List (Str × Addr)) (fp : List Addr), PG (bh X s H scope (compEnvC scope cl C X.env) fp) tg g)
    (he : ∀ (s : Shared) (H : Hp) (C : Addr) (cl : List (Str × Addr)) (fp : List Addr), PE (bh X s H scope (compEnvC scope cl C X.env) fp) elt te) (hs : ∀ x, foldedSetIterable iter X.env x = pure x := by intro _; rfl) :
    PE X (.ListComp elt [⟨tg, iter, [], 0⟩] scope pos) (tLc wi g tYes te (own.map (·.2))) := by
  refine ⟨fun pins s σ H Q I h => ?_⟩
  rw [eval_ListComp]
  have free : ∀ y ∈ scope.names, y.2 = .free → ∃ c, X.env.cells.lookup y.1 = some c := fun y hy e => (ok.free y hy e).elim (fun k => I.ok.has _ (.inl k)) fun k => I.ok.has _ (.inr k)
  refine wpAny_comprehension_free rfl hs (closure_ok free) ok.kind (fun y hy e => by rw [ok.uniq y hy, e]) (thn (hi.run pins s σ H _ I h) fun xv t1 hx => thn hx fun itv t2 h2 => ?_)
  obtain ⟨it, fp, tn, J, H2, rfl, I2, T, st2, f2, q⟩ := h2
  refine wpAny_newObj_type (newEnv_comp ?_) (by show 0 ≤ sizeLine; decide)
  generalize eD : t2.heap.objs.size = D
  obtain ⟨W, ⟨m0, w0⟩, turn⟩ := q D (I2.hok.fresh (Nat.le_of_eq eD))
  generalize es : ({ t2 with heap := t2.heap.push { cls := .type "list", data := .seq ([] : List Value).toArray } } : Shared) = s3
  have up3 : ∀ b o, t2.heap.get? b = some o → s3.heap.get? b = some o := fun b o e => by
    rw [← es]
    exact Heap.get?_push_of_some _ e
  have new3 : s3.heap.get? D = some { cls := .type "list", data := .seq ([] : List Value).toArray } := by
    rw [← es, ← eD]
    exact Heap.get?_push_size _ rfl
  have I3 : Inv X pins σ (upd H2 D (.lst [])) s3 := by
    have z := I2.laid (t' := t2.toks) (h' := t2.heap.push { cls := .type "list", data := .seq ([] : List Value).toArray }) (o := .lst []) (fun b o e => Heap.get?_push_of_some _ e) (Nat.le_of_eq eD) ⟨Nat.zero_le _, [], 0, .nil, by rw [← eD]; exact Heap.get?_push_size _ rfl⟩
    rw [← es]
    exact z
  have lt3 : ∀ b ∈ fp, b < t2.heap.objs.size := fun b hb => by
    obtain ⟨o, e, _⟩ := T.obj _ _ st2 b hb
    exact Heap.lt_size e
  have f3 : ∀ b ∈ fp, FpOk X pins (upd H2 D (.lst [])) b ∧ b < s3.heap.objs.size := fun b hb => by
    obtain ⟨o, e, _⟩ := T.obj _ _ st2 b hb
    refine ⟨⟨?_, (f2 b hb).2⟩, Heap.lt_size (up3 b o e)⟩
    rw [upd_ne (eD ▸ Nat.ne_of_lt (lt3 b hb))]
    exact (f2 b hb).1
  have st3 : tn 0 s3.heap := T.keep _ _ _ st2 fun b _ o e => up3 b o e
  have I4 := block_start I3 ok hN f3
  have pg := hg s3 (upd H2 D (.lst [])) s3.heap.objs.size (cellsFrom (s3.heap.objs.size + 1) scope.names (cloFrom X.env.cells scope.names [])) fp
  have pe := he s3 (upd H2 D (.lst [])) s3.heap.objs.size (cellsFrom (s3.heap.objs.size + 1) scope.names (cloFrom X.env.cells scope.names [])) fp
  show codeAny _ _ (.compStart (.ListComp elt [⟨tg, iter, [], 0⟩] scope pos) 0 (.ref it) (.ref D) (compEnvC scope (cellsFrom (s3.heap.objs.size + 1) scope.names (cloFrom X.env.cells scope.names [])) s3.heap.objs.size X.env)) (compPost (model X.prog X.w) X.A X.xe _ _ (.ref D) s3.heap.objs.size) { s3 with heap := pushCells (s3.heap.push { cls := .type "dict", data := .dict #[] }) scope.names }
  generalize hce : compEnvC scope (cellsFrom (s3.heap.objs.size + 1) scope.names (cloFrom X.env.cells scope.names [])) s3.heap.objs.size X.env = ce at I4 pg pe ⊢
  have cL : ce.locals = s3.heap.objs.size := by
    rw [← hce]
    rfl
  generalize upd H2 D (.lst []) = H3 at I3 I4 pg pe w0 f3
  have up4 : ∀ b o, s3.heap.get? b = some o → (pushCells (s3.heap.push { cls := .type "dict", data := .dict #[] }) scope.names).get? b = some o := fun b o e => pushCells_keeps _ _ _ _ (Heap.get?_push_of_some _ e)
  generalize e4 : ({ s3 with heap := pushCells (s3.heap.push { cls := .type "dict", data := .dict #[] }) scope.names } : Shared) = s4 at I4 ⊢
  have up5 : ∀ b o, s3.heap.get? b = some o → s4.heap.get? b = some o := fun b o e => by
    rw [← e4]
    exact up4 b o e
  have Ib : Inv (bh X s3 H3 scope ce fp) [] (wipe σ (own.map (·.2))) H3 s4 := (I4.pins_of (pins' := X.pn) fun p hp => by
    have z := I3.pin p (List.mem_append_left _ hp)
    exact ⟨up5 _ _ z.1, z.2.1, fun y => absurd (Heap.lt_size z.1) (by rw [y, cL]; exact Nat.lt_irrefl _), fun m => (List.mem_cons.mp (I3.stkSub p.1 m)).elim z.2.2.1 z.2.2.2.1, z.2.2.2.2⟩).toTry fun _ _ => False
  have st4 : tn 0 s4.heap := T.keep _ _ _ st3 fun b _ o e => up5 b o e
  have loop := loop_hot (B := bh X s3 H3 scope ce fp) (elt := elt) (iter := iter) (scope := scope) (pos := pos) (R := compPost (model X.prog X.w) X.A X.xe none (fun v s' => EP X pins σ Q v s') (.ref D) s3.heap.objs.size) (hotC_bh hc) (fun _ _ z => z) T pg pe rfl (fun p hp b hb => (f3 b hb).1.2.2.2.2.2 p (List.mem_append_left _ hp)) turn (fun s' H' I' qq => ?_) Ib st4 (fun b hb => (f3 b hb).1.1) w0
  · exact codeAny_compStart_list loop (T.self X.A 0 _ _ _ st4 loop)
  · have I7 : Inv X pins σ H' s' := I3.call' (ch := fp) I'.os I'.base I'.hok I'.bare fun b hb => ⟨(f3 b hb).1.2.2.2.1, (f3 b hb).1.2.1, (f3 b hb).1.2.2.2.2.1, (f3 b hb).1.2.2.2.2.2⟩
    have nC : H' s3.heap.objs.size = none := by
      have z : H' ce.locals = none := I'.free
      rw [cL] at z
      exact z
    obtain ⟨m, hn, _⟩ := I'.loc
    have hn : s'.heap.Ns ce.locals m := hn
    rw [cL] at hn
    obtain ⟨a0, a1, a2, a3, a4, a5⟩ := I3.fpOk (Nat.le_refl _) nC
    exact ⟨m, hn, fun h'' sb => ⟨.ref D, H', I7.turned (t' := s'.toks) (fun b o hb e => (sb.2 b hb).trans e) a0 a1 a3 a4 a5, rfl, qq⟩⟩
end Ko

/-! enumerate over a tuple; what is walked may be a list or a tuple; == of instances by the text's own def -/
namespace Ko
open PySem L2 PySem.Spec PyProof.Rows
set_option maxHeartbeats 4000000 in
theorem meets_enumT {v : Value} {o : Obj} {H : Heap → Prop} (B : Begins v o H) :
    Meets (Builtin.«enumerate.__new__» ⟨[.type "enumerate", v], []⟩) (fun _ R s => H s.heap ∧
      R (.ok (.ret (.ref (s.heap.push o).objs.size))) { s with heap := (s.heap.push o).push { cls := .type "enumerate", data := .fields #[.none, .bool false, .ref s.heap.objs.size, rawInt 0, .none, .none] } }) :=
  .of_wp fun prog w A R s h => by
    obtain ⟨hp, g, d, tk, os⟩ := s; obtain ⟨h1, h⟩ := h
    have hsub := sub_enumerate
    have q1 : ∀ {A' : Around} {E : Value → Shared → Prop} {Q : Value → Shared → Prop}, Q (.ref hp.objs.size) ⟨hp.push o, g, d, tk, os⟩ → wpAny (model prog w) A' (pyIter v) Q E ⟨hp, g, d, tk, os⟩ :=
      fun q => B.iter prog w _ _ ⟨hp, g, d, tk, os⟩ _ h1 q
    wp_walk using q1
    refine wpAny_stack_any fun st => wpAny_pure ?_
    split
    · rename_i c _ _ _ _ _
      cases (c == Value.type "enumerate")
      · wp_walk using q1
        exact ⟨_, rfl, h⟩
      · wp_walk using q1
        exact ⟨_, rfl, h⟩
    · wp_walk using q1
      exact ⟨_, rfl, h⟩
section
variable {prog : Program} {w : World} {A : Around} {E : Value → Shared → Prop} {s : Shared}
theorem enum_beginsT {v : Value} {o : Obj} {H : Heap → Prop} {Q : Value → Shared → Prop} (B : Begins v o H) (h1 : H s.heap)
    (h : ∀ h', IsEnum h' (s.heap.objs.size + 1) s.heap.objs.size 0 .none → h'.get? s.heap.objs.size = some o → h'.objs.size = s.heap.objs.size + 2 →
      (∀ b o, s.heap.get? b = some o → h'.get? b = some o) → Q (.ref (s.heap.objs.size + 1)) { s with heap := h' }) :
    wpAny (model prog w) A (call (.type "enumerate") [v]) Q E s := by
  refine callType_new F.called_enumerate (by decide) (F.typeCall_enumerate_1 _) (F.newCall_enumerate_1 _) (fun obj => F.args_object_init_2 obj _) F.entry_enumerate_new
    (meets_enumT B) ⟨h1, ?_⟩
  have hz : (s.heap.push o).objs.size = s.heap.objs.size + 1 := Heap.size_push ..
  show _ ∧ _
  rw [hz]
  have he : IsEnum ((s.heap.push o).push { cls := .type "enumerate", data := .fields #[.none, .bool false, .ref s.heap.objs.size, rawInt 0, .none, .none] }) (s.heap.objs.size + 1) s.heap.objs.size 0 .none := by
    have := Heap.get?_push_size (s.heap.push o) (o := { cls := .type "enumerate", data := .fields #[.none, .bool false, .ref s.heap.objs.size, rawInt 0, .none, .none] }) rfl
    rw [hz] at this; exact this
  refine ⟨⟨_, he, rfl⟩, h _ he (Heap.get?_push_of_some _ (Heap.get?_push_size _ B.free)) (by rw [Heap.size_push, hz]) fun b o x => Heap.get?_push_of_some _ (Heap.get?_push_of_some _ x)⟩
end
/-- the tuple at a, each item in a new pair -/
def IteT (K : PySem.W.Frag) (a : Addr) : It :=
  ⟨fun i H => ∃ (xs : List V) (x : V), SqT K H a xs ∧ xs[i]? = some x, fun i H v H' => ∃ T x, v = .ref T ∧ H T = none ∧ H' = upd H T (.tup [.int (i : Nat), x]) ∧ ∀ xs, SqT K H a xs → xs[i]? = some x, fun i H => ∃ xs : List V, SqT K H a xs ∧ xs.length ≤ i⟩
theorem tup_iter_ne {h : Heap} {it a : Addr} {i : Nat} {items : Array Value} (hit : h.IsTupleIter it a i) (ht : h.IsTuple a items) : a ≠ it := fun z => by
  obtain ⟨o, ho, hc, _⟩ := hit
  obtain ⟨o', ho', hc', _⟩ := ht
  rw [z, ho] at ho'
  cases ho'
  rw [hc] at hc'
  exact absurd hc' (by decide)
theorem enum_ne {h : Heap} {e it a : Addr} {i : Int} {old : Value} {items : Array Value} (he : IsEnum h e it i old) (ht : h.IsTuple a items) : e ≠ a := fun z => by
  obtain ⟨o', ho', hc', _⟩ := ht
  rw [← z, he] at ho'
  cases ho'
  exact absurd (show Value.type "enumerate" = Value.type "tuple" from hc') (by decide)
theorem turn_enumT {P : Program} {w : World} {K : PySem.W.Frag} {elts : List Expr} {kk : Nat} {tpos : Pos} (a e it : Addr) :
    Turn P w K (.Tuple elts kk tpos) (IteT K a) [e, it] e (fun i h => (∃ old, IsEnum h e it ((i : Nat) : Int) old) ∧ h.IsTupleIter it a i ∧ e ≠ it) where
  mem := by simp
  obj := fun i h st b hb => by
    obtain ⟨⟨old, he⟩, ⟨o, ho, hc, hd⟩, _⟩ := st
    have e' : b = e ∨ b = it := by simpa using hb
    rcases e' with z | z
    · rw [z]; exact ⟨_, he, fun v q => nomatch q⟩
    · rw [z]; exact ⟨o, ho, fun v q => by rw [hd] at q; cases q⟩
  keep := fun i h h' st k => let ⟨⟨old, he⟩, hi, hne⟩ := st; ⟨⟨old, k e (by simp) _ he⟩, hi.at fun o q => k it (by simp) o q, hne⟩
  item := by
    intro X hP hw hK hc i pins s σ H E I hf st hg
    subst hP hw hK
    obtain ⟨⟨old, he⟩, hit, hne⟩ := st
    obtain ⟨xs, x, hq, hx⟩ := hg
    obtain ⟨its, rv, p, hz⟩ := I.tuple hq
    have hT0 : s.heap.IsTuple a its.toArray := p
    obtain ⟨u, hu, ru⟩ := rv.get hx
    have hel : e < s.heap.objs.size := Heap.lt_size he
    have hil : it < s.heap.objs.size := by obtain ⟨_, q, _⟩ := hit; exact Heap.lt_size q
    have hil2 : i < its.toArray.size := by
      have := (List.getElem?_eq_some_iff.mp hu).1
      simpa using this
    refine wpAny_pyNext_enum_itemC (c := ((i : Nat) : Int)) (Draws.tuple (A := X.A.in1) (I.ok.hd hc) it a (tup_iter_ne hit hT0) its.toArray) he ⟨hit, hT0⟩ hil2 hne (by
      intro hm
      simp only [List.mem_cons, List.not_mem_nil, or_false] at hm
      rcases hm with z | z
      · exact hne z
      · exact enum_ne he hT0 z) fun x' h' tk hP ho hs' hT hsz hk => ?_
    have ex : x' = u := by
      have e1 : its.toArray[i]? = some u := by simpa using hu
      rw [e1] at hP
      exact (Option.some.inj hP).symm
    subst ex
    refine ⟨_, rfl, wpAny_letOwnedTupleGo_enum (s := { s with heap := h', toks := tk + 1 }) ho fun h'' he' sb => ?_⟩
    have hT2 : h''.get? s.heap.objs.size = some { cls := .type "tuple", data := .seq #[.int i tk, x'] } := (sb.2 _ (Nat.ne_of_gt hel)).trans hT
    have new : ObjOk X.prog X.w (upd H s.heap.objs.size (.tup [.int (i : Nat), x])) h'' s.heap.objs.size (.tup [.int (i : Nat), x]) :=
      ⟨by show 2 ≤ sizeLine; decide, [.int i tk, x'], .cons ⟨_, rfl⟩ (.cons ru .nil), ⟨_, hT2, rfl, _, rfl⟩⟩
    have I1 : Inv X pins σ (upd H s.heap.objs.size (.tup [.int (i : Nat), x])) { s with heap := h'', toks := tk + 1 } :=
      I.turnedNew (ch := [e, it]) (fun b ob hb q => (sb.2 b (fun z => hb (by simp [z]))).trans (hk b ob (fun z => hb (by simp [z])) (fun z => hb (by simp [z])) q)) hf (Nat.le_refl _) new
    refine ⟨.ref s.heap.objs.size, _, I1, rfl, ⟨_, x, rfl, I.hok.fresh (Nat.le_refl _), rfl, fun ys hy => by rw [I.tuple_inj hy hq]; exact hx⟩, ⟨⟨x', ?_⟩, hs'.1.at fun o q => (sb.2 it (Ne.symm hne)).trans q, hne⟩, fun b hb => ?_⟩
    · have e1 : ((i + 1 : Nat) : Int) = (i : Int) + 1 := by omega
      rw [e1]; exact he'
    · have hb' : b < s.heap.objs.size := by
        have e' : b = e ∨ b = it := by simpa using hb
        rcases e' with z | z
        · rw [z]; exact hel
        · rw [z]; exact hil
      rw [upd_ne (Nat.ne_of_lt hb')]
      exact (hf b hb).1
  done := by
    intro X hP hw hK hc i pins s σ H E I hf st hg
    subst hP hw hK
    obtain ⟨⟨old, he⟩, hit, hne⟩ := st
    obtain ⟨xs, hq, hx⟩ := hg
    obtain ⟨its, rv, p, hz⟩ := I.tuple hq
    have hT0 : s.heap.IsTuple a its.toArray := p
    obtain ⟨f0, f1, f2, f3, f4, f5⟩ := hf it (by simp)
    have hl := rv.length
    have hnone : its.toArray[i]? = none := by simp; omega
    have D : Draws X.prog X.w X.A.in1 it [it, a] i (fun _ _ => True) (fun j h => j = i ∧ h.IsTupleIter it a i ∧ h.IsTuple a its.toArray) :=
      { live := fun _ _ st => let ⟨_, ⟨o, ho, _⟩, _⟩ := st; ⟨o, ho⟩
        frame := fun _ _ _ st hk => ⟨st.1, st.2.1.at fun o e => hk it (by simp) o e, st.2.2.at fun o e => hk a (by simp) o e⟩
        item := fun j s Q E hi st hQ => absurd st.1 (Nat.ne_of_lt hi)
        done := fun s Q E st hE => wpAny_nextOf_tuple_end (I.ok.hd hc) st.2.1 st.2.2 hnone hE }
    exact wpAny_pyNext_enum_endD D he ⟨rfl, hit, hT0⟩ fun h' eb => ⟨rfl, I.turned (t' := s.toks) (fun b o hb q => eb b o hb q) f0 f1 f3 f4 f5⟩
  self := fun A i s Q E st h => let ⟨⟨_, he⟩, _⟩ := st; wpAny_pyIter_enum he h
/-- enumerate(x), x a list or a tuple -/
def EnJ (K : PySem.W.Frag) (H : Hp) (a : Addr) (xs : List V) (J : It) : Prop := (SqL K H a xs ∧ J = Ite K a) ∨ (SqT K H a xs ∧ J = IteT K a)
def iEnumA (K : PySem.W.Frag) (ta : TA) : TI := fun σ H R => ta σ H fun vs H1 => ∃ a xs J, vs = [.ref a] ∧ EnJ K H1 a xs J ∧ R J H1
theorem pi_enumA {X : Cx} {e : Expr} {ta : TA} {p pos tpos : Pos} {elts : List Expr} {kk : Nat} (hg : Gl X "enumerate") (hm : X.mg "enumerate" = none) (ha : PA X [e] ta) (hs : starEach [e] X.env = [(false, eval e X.env)] := by rfl) :
    PI X (.Tuple elts kk tpos) (.Call (.Name "enumerate" p) [e] [] pos) (iEnumA X.K ta) := by
  refine ⟨fun pins s σ H R I h => ?_⟩
  refine Call_ (ld_blt I hg hm boot_enumerate (PyProof.Rows.callWith_type1 (thn (ha.run pos pins s σ H _ I h) fun us s1 ⟨vs, H1, I1, r1, q1⟩ => ?_) hs rfl))
  obtain ⟨a, xs, J, ex, hJ, q⟩ := q1
  subst ex
  have fp : ∀ b, b ∈ [s1.heap.objs.size + 1, s1.heap.objs.size] → s1.heap.objs.size ≤ b := fun b hb => by
    have e' : b = s1.heap.objs.size + 1 ∨ b = s1.heap.objs.size := by simpa using hb
    rcases e' with z | z
    · rw [z]; exact Nat.le_add_right _ _
    · rw [z]; exact Nat.le_refl _
  cases r1 with
  | cons r rr =>
    cases rr
    cases r
    rcases hJ with ⟨hq, rfl⟩ | ⟨hq, rfl⟩
    · obtain ⟨its, rv, p', hz⟩ := I1.list hq
      refine call_enumerate_list p'.isList fun h' he hit hsz hk => wpAny_pyIter_enum he ?_
      have I2 : Inv X pins σ H1 { s1 with heap := h' } := I1.kept (t' := s1.toks) hk
      exact ⟨s1.heap.objs.size + 1, [s1.heap.objs.size + 1, s1.heap.objs.size], _, _, H1, rfl, I2, turn_enum a (s1.heap.objs.size + 1) s1.heap.objs.size, ⟨⟨.none, he⟩, hit, Nat.succ_ne_self _⟩, fun b hb => I1.fpOk (fp b hb) (I1.hok.fresh (fp b hb)), q⟩
    · obtain ⟨its, rv, p', hz⟩ := I1.tuple hq
      have hT0 : s1.heap.IsTuple a its.toArray := p'
      refine enum_beginsT (begins_tuple a its.toArray) hT0 fun h' he hit hsz hk => wpAny_pyIter_enum he ?_
      have I2 : Inv X pins σ H1 { s1 with heap := h' } := I1.kept (t' := s1.toks) hk
      exact ⟨s1.heap.objs.size + 1, [s1.heap.objs.size + 1, s1.heap.objs.size], _, _, H1, rfl, I2, turn_enumT a (s1.heap.objs.size + 1) s1.heap.objs.size, ⟨⟨.none, he⟩, ⟨_, hit, rfl, rfl⟩, Nat.succ_ne_self _⟩, fun b hb => I1.fpOk (fp b hb) (I1.hok.fresh (fp b hb)), q⟩
theorem walk_enumT {K : PySem.W.Frag} {a : Addr} {xs : List V} : Walk (IteT K a) xs.length (fun H => SqT K H a xs) (YPair (fun i => some (.int (i : Nat))) (fun i => xs[i]?)) := by
  refine ⟨fun i _ hi q => ⟨xs, xs[i], q, by simp [hi]⟩, fun _ q => ⟨xs, q, Nat.le_refl _⟩, fun i H v H' _ q y => ?_⟩
  obtain ⟨T, x, h1, h2, h3, h4⟩ := y
  exact ⟨T, .int (i : Nat), x, h1, h2, h3, rfl, h4 xs q⟩
/-- x, a list or a tuple -/
def SeJ (K : PySem.W.Frag) (H : Hp) (a : Addr) (xs : List V) (J : It) : Prop := (SqL K H a xs ∧ J = Itl K a) ∨ (SqT K H a xs ∧ J = Itt K a)
def iSeqA (K : PySem.W.Frag) (tl : TE) : TI := fun σ H R => tl σ H fun x H1 => ∃ a xs J, x = .ref a ∧ SeJ K H1 a xs J ∧ R J H1
theorem pi_seqA {X : Cx} {tg l : Expr} {tl : TE} (hl : PE X l tl) : PI X tg l (iSeqA X.K tl) := by
  refine ⟨fun pins s σ H R I h => ?_⟩
  refine thn (hl.run pins s σ H _ I h) fun v s1 ⟨x, H1, I1, r1, q1⟩ => ?_
  obtain ⟨a, xs, J, e, hJ, q⟩ := q1
  subst e
  cases r1
  rcases hJ with ⟨hq, rfl⟩ | ⟨hq, rfl⟩
  · obtain ⟨its, rv, p, hz⟩ := I1.list hq
    refine wpAny_pyIter_list p.isList ?_
    refine ⟨s1.heap.objs.size, [s1.heap.objs.size], _, _, H1, rfl, I1.kept (t' := s1.toks) fun b o e => Heap.get?_push_of_some _ e, turn_list a _, ⟨_, Heap.get?_push_size _ rfl, rfl, rfl⟩, fun b hb => ?_, q⟩
    have e : b = s1.heap.objs.size := by simpa using hb
    subst e
    exact I1.fpOk (Nat.le_refl _) (I1.hok.fresh (Nat.le_refl _))
  · obtain ⟨its, rv, p, hz⟩ := I1.tuple hq
    refine wpAny_pyIter_tuple (show s1.heap.IsTuple a its.toArray from p) ?_
    refine ⟨s1.heap.objs.size, [s1.heap.objs.size], _, _, H1, rfl, I1.kept (t' := s1.toks) fun b o e => Heap.get?_push_of_some _ e, turn_tuple a _, ⟨_, Heap.get?_push_size _ rfl, rfl, rfl⟩, fun b hb => ?_, q⟩
    have e : b = s1.heap.objs.size := by simpa using hb
    subst e
    exact I1.fpOk (Nat.le_refl _) (I1.hok.fresh (Nat.le_refl _))
/-- x == y, both instances of the class at C whose own == is at g -/
def rOwnI (C : Addr) (sp : Sp) (E : XK) : R2 := fun x y H Q => ∃ a dx fs b dy gs, x = .ref a ∧ y = .ref b ∧ H a = some (.ins C dx fs) ∧ H b = some (.ins C dy gs) ∧ sp [x, y] H Q E
theorem op_ownI {X : Cx} {CX : CXT} {n : Nat} {C g : Addr} {fd : FuncData} {ps : List Str} {sp : Sp} {E : XK} (hs : PySem.W.findIn X.K (.ref C) "__eq__" = some (some (.ref g))) (hf : PySem.W.isFn X.K (.ref g) = true) (F : FnOk X.prog X.w X.K X.mg X.base CX n g fd ps sp)
    (hb : Binds X.K fd ps []) (hr : Room n X.A) (hx : Passes CX X E) : OpR X (compareOp .Eq) (rOwnI C sp E) := by
  intro pins s σ H x y v u Q I rx ry h
  obtain ⟨a, dx, fs, b, dy, gs, rfl, rfl, ha, hb', q⟩ := h
  cases (show v = Value.ref a from rx)
  cases (show u = Value.ref b from ry)
  obtain ⟨mA, J, _⟩ := ins_get I.hok ha
  obtain ⟨mB, J', _⟩ := ins_get I.hok hb'
  obtain ⟨od, J, _⟩ := J.look
  obtain ⟨od', J', _⟩ := J'.look
  obtain ⟨m, hF⟩ := I.fr
  show wpAny (model X.prog X.w) X.A (richCompare .Eq (.ref a) (.ref b)) (EP X pins σ Q) X.xe s
  refine PySem.W.cmp_K (op := .Eq) (tb := .ref C) hr.units0 hF I.ok.mod.kin J J'.type (by simp [PySem.W.notFirst]) hs hf ?_
  refine wpAny_mono (run_fn F hr hb .nil hx I (us := [.ref a, .ref b]) (vs := [.ref a, .ref b]) (.cons rfl (.cons rfl .nil)) (by rw [List.append_nil]; exact q)) (fun w s' z => ?_) fun _ _ x => x
  obtain ⟨z', H', I', rz, qz⟩ := z
  exact SlX.cmpback rz ⟨z', H', I', rz, qz⟩
end Ko

/-! The heap without some lists -/
namespace Ko
open PySem L2 PySem.Spec PyProof.Rows Xm
def offF (F : Addr → Bool) (H : Hp) : Hp := fun p => if F p = true then none else H p
/-- F tells of lists -/
def Al (F : Addr → Bool) (H : Hp) : Prop := ∀ p, F p = true → ∃ xs, H p = some (.lst xs)
section
variable {F : Addr → Bool} {N : Nat} {H H' : Hp} {b c p a : Addr} {o : HO} {xs : List V}
theorem of_at (h : H p = some o) (n : F p = false) : offF F H p = some o := by
  unfold offF
  rw [n]
  exact h
theorem of_ne (h : offF F H p = some o) : F p = false ∧ H p = some o := by
  unfold offF at h
  cases e : F p with
  | true =>
    rw [e, if_pos rfl] at h
    cases h
  | false =>
    rw [e] at h
    exact ⟨rfl, h⟩
theorem of_tup (h : H p = some (.tup xs)) (A : Al F H) : offF F H p = some (.tup xs) := of_at h (by
  cases e : F p with
  | true =>
    obtain ⟨ys, z⟩ := A p e
    rw [h] at z
    cases z
  | false => rfl)
theorem of_same : Same (offF F H) H := fun a o e => (of_ne e).2
theorem of_mono (s : Same H H') : Same (offF F H) (offF F H') := fun a o e => of_at (s _ _ (of_ne e).2) (of_ne e).1
theorem of_bag (s : Same (delH H b) (delH H' b)) (hb : F b = true) : Same (offF F H) (offF F H') := fun a o e => by
  obtain ⟨h1, h2⟩ := of_ne e
  have ne : a ≠ b := fun z => by
    rw [z, hb] at h1
    cases h1
  exact of_at (mk_same _ _ (s _ _ (mk_at h2 ne))) h1
theorem of_free (n : H p = none) (A : Al F H) : F p = false := by
  cases e : F p with
  | true =>
    obtain ⟨ys, z⟩ := A p e
    rw [n] at z
    cases z
  | false => rfl
theorem of_new (n : H p = none) (A : Al F H) : offF F (upd H p o) p = some o := of_at upd_same (of_free n A)
theorem of_upd (n : H p = none) : Same (offF F H) (offF F (upd H p o)) := of_mono (same_new n)
theorem al_same (A : Al F H) (s : Same H H') : Al F H' := fun p h => by
  obtain ⟨xs, z⟩ := A p h
  exact ⟨xs, s _ _ z⟩
theorem al_upd (A : Al F H) (n : H p = none) : Al F (upd H p o) := al_same A (same_new n)
theorem al_bag (A : Al F H) (s : Same (delH H b) (delH H' b)) (B : Bag N H' b c) : Al F H' := fun p h => by
  by_cases e : p = b
  · obtain ⟨_, _, _, _, _, _, z, _⟩ := B
    exact ⟨_, by rw [e]; exact z⟩
  · obtain ⟨xs, z⟩ := A p h
    exact ⟨xs, mk_same _ _ (s _ _ (mk_at z e))⟩
end
/-! no list within -/
mutual
def Dt.noL : Dt → Bool
  | .lst _ => false
  | .tup l => Dt.noLs l
  | _ => true
def Dt.noLs : List Dt → Bool
  | [] => true
  | d :: l => Dt.noL d && Dt.noLs l
end
mutual
theorem Dq.off {F : Addr → Bool} {H : Hp} (A : Al F H) : ∀ {v : V} {d : Dt}, Dq H v d → d.noL = true → Dq (offF F H) v d
  | _, _, .non, _ => .non
  | _, _, .bl b, _ => .bl b
  | _, _, .int i, _ => .int i
  | _, _, .str x, _ => .str x
  | _, _, .lst h r, n => by
    rw [Dt.noL] at n
    cases n
  | _, _, .tup h r, n => by
    rw [Dt.noL] at n
    exact .tup (of_tup h A) (DqAll.off A r n)
theorem DqAll.off {F : Addr → Bool} {H : Hp} (A : Al F H) : ∀ {vs : List V} {ds : List Dt}, DqAll H vs ds → Dt.noLs ds = true → DqAll (offF F H) vs ds
  | _, _, .nil, _ => .nil
  | _, _, .cons h r, n => by
    rw [Dt.noLs] at n
    have n := Bool.and_eq_true_iff.mp n
    exact .cons (Dq.off A h n.1) (DqAll.off A r n.2)
end
theorem noLs_iff {ds : List Dt} : Dt.noLs ds = true ↔ ∀ d ∈ ds, d.noL = true := by
  induction ds with
  | nil => simp [Dt.noLs]
  | cons d ds ih => simp [Dt.noLs, ih]
/-- the one list l is left out -/
def one (l : Addr) : Addr → Bool := fun p => decide (p = l)
theorem al_one {H : Hp} {l : Addr} {xs : List V} (h : H l = some (.lst xs)) : Al (one l) H := fun p e => ⟨xs, by rw [of_decide_eq_true e]; exact h⟩
theorem off_set {H : Hp} {l : Addr} {o : HO} : offF (one l) (upd H l o) = offF (one l) H := funext fun p => by
  unfold offF one
  by_cases e : p = l
  · rw [decide_eq_true e, if_pos rfl, if_pos rfl]
  · rw [decide_eq_false e]
    exact upd_ne e
theorem Dq.setL {H : Hp} {l : Addr} {xs : List V} {o : HO} {v : V} {d : Dt} (h : Dq H v d) (n : d.noL = true) (hl : H l = some (.lst xs)) : Dq (upd H l o) v d := by
  have h1 := h.off (al_one hl) n
  rw [← off_set (o := o)] at h1
  exact h1.same of_same
theorem DqAll.setL {H : Hp} {l : Addr} {xs : List V} {o : HO} {vs : List V} {ds : List Dt} (h : DqAll H vs ds) (n : Dt.noLs ds = true) (hl : H l = some (.lst xs)) : DqAll (upd H l o) vs ds := by
  have h1 := h.off (al_one hl) n
  rw [← off_set (o := o)] at h1
  exact h1.same of_same
theorem Dq.bag {H H' : Hp} {b c : Addr} {N : Nat} {v : V} {d : Dt} (h : Dq H v d) (n : d.noL = true) (B : Bag N H b c) (s : Same (delH H b) (delH H' b)) : Dq H' v d := by
  obtain ⟨_, _, _, _, _, _, z, _⟩ := B
  exact ((h.off (al_one z) n).same (of_bag s (decide_eq_true rfl))).same of_same
theorem DqAll.bag {H H' : Hp} {b c : Addr} {N : Nat} {vs : List V} {ds : List Dt} (h : DqAll H vs ds) (n : Dt.noLs ds = true) (B : Bag N H b c) (s : Same (delH H b) (delH H' b)) : DqAll H' vs ds := by
  obtain ⟨_, _, _, _, _, _, z, _⟩ := B
  exact ((h.off (al_one z) n).same (of_bag s (decide_eq_true rfl))).same of_same
end Ko

/-! sorted of a dict whose keys are pairs of ints; min and max of a pair of ints -/
namespace Ko
open PySem L2 PySem.Spec PyProof.Rows
/-- a pair of ints as a key -/
def kE (k : Int × Int) : List Key := [Sum.inl k.1, Sum.inl k.2]
theorem kE_inj {a b : Int × Int} (h : kE a = kE b) : a = b := by
  unfold kE at h
  simp only [List.cons.injEq, Sum.inl.injEq, and_true] at h
  exact Prod.ext h.1 h.2
theorem kE_map (k : Int × Int) : (kE k).map kV = [.int k.1, .int k.2] := rfl
def pairAt (H : Hp) : Value → Int × Int
  | .ref b => match H b with
    | some (.tup [.int x, .int y]) => (x, y)
    | _ => (0, 0)
  | _ => (0, 0)
theorem pairAt_of {H : Hp} {b : Addr} {k : Int × Int} (h : H b = some (.tup [.int k.1, .int k.2])) : pairAt H (.ref b) = k := by
  unfold pairAt
  simp only [h]
theorem pair_is {P : Program} {w : World} {H : Hp} {h : Heap} {b : Addr} {k : Int × Int} (ok : HOk P w H h) (e : H b = some (.tup [.int k.1, .int k.2])) : Srt.IsPair h (.ref b) k.1 k.2 := by
  obtain ⟨_, its, r, o, h1, h2, n, h3⟩ := (show ObjOk P w H h b (.tup [.int k.1, .int k.2]) from ok b _ e)
  obtain ⟨u1, u2, rfl, r1, r2⟩ := vals2 r
  obtain ⟨t1, rfl⟩ := r1
  obtain ⟨t2, rfl⟩ := r2
  exact ⟨b, o, t1, t2, n, rfl, h1, h2, h3⟩
theorem kt_at {H : Hp} : ∀ {kvs : List (List Key × V)} {xs : List (List Key × Addr × Value)} {ks : List (Int × Int)}, KT H kvs xs → kvs.map (·.1) = ks.map kE → Paired (fun (t : Addr) (k : Int × Int) => H t = some (.tup [.int k.1, .int k.2])) (xs.map (·.2.1)) ks
  | _, _, [], .nil, _ => .nil
  | _, _, _ :: _, .nil, e => by cases e
  | _, _, [], .cons _ _, e => by cases e
  | _, _, k :: ks, .cons h r, e => by
    rw [List.map_cons, List.map_cons, List.cons.injEq] at e
    refine .cons ?_ (kt_at r e.2)
    have h2 := h.2.1
    rw [e.1] at h2
    exact h2
theorem paired_perm {α β : Type} {F : α → β → Prop} {l l' : List α} (p : l'.Perm l) : ∀ {k : List β}, Paired F l k → ∃ k', k'.Perm k ∧ Paired F l' k' := by
  induction p with
  | nil => intro k h; exact ⟨k, .refl _, h⟩
  | cons x _ ih =>
    intro k h
    cases h with
    | cons h r =>
      obtain ⟨k', p', h'⟩ := ih r
      exact ⟨_ :: k', p'.cons _, .cons h h'⟩
  | swap x y l =>
    intro k h
    cases h with
    | cons h r =>
    cases r with
    | cons h2 r => exact ⟨_, .swap _ _ _, .cons h2 (.cons h r)⟩
  | trans _ _ ih1 ih2 =>
    intro k h
    obtain ⟨k1, p1, h1⟩ := ih2 h
    obtain ⟨k2, p2, h2⟩ := ih1 h1
    exact ⟨k2, p2.trans p1, h2⟩
theorem paired_pw {α β : Type} {F : α → β → Prop} {R : α → α → Prop} {S : β → β → Prop} (hm : ∀ a b c d, F a c → F b d → R a b → S c d) : ∀ {l : List α} {k : List β}, Paired F l k → l.Pairwise R → k.Pairwise S
  | _, _, .nil, _ => .nil
  | _, _, .cons h r, p => by
    obtain ⟨p1, p2⟩ := List.pairwise_cons.mp p
    refine List.pairwise_cons.mpr ⟨fun b hb => ?_, paired_pw hm r p2⟩
    have gen : ∀ {l : List _} {k : List _}, Paired F l k → ∀ b ∈ k, ∃ a ∈ l, F a b := by
      intro l k q
      induction q with
      | nil => intro b hb; cases hb
      | cons h _ ih =>
        intro b hb
        rcases List.mem_cons.mp hb with rfl | hb
        · exact ⟨_, List.mem_cons_self, h⟩
        · obtain ⟨a, ha, h⟩ := ih b hb
          exact ⟨a, List.mem_cons_of_mem _ ha, h⟩
    obtain ⟨a, ha, h'⟩ := gen r b hb
    exact hm _ _ _ _ h h' (p1 a ha)
def rSortDT : List V → Hp → VK → Prop := fun xs H Q => ∃ (a : Addr) (kvs : List (List Key × V)) (ks : List (Int × Int)), xs = [.ref a] ∧ H a = some (.dT kvs) ∧ kvs.map (·.1) = ks.map kE ∧
  ∀ (ts : List Addr) (ks' : List (Int × Int)) (p : Addr), ks'.Perm ks → ks'.Pairwise (fun x y => SrtO.lexB y x = false) → Paired (fun t (k : Int × Int) => H t = some (.tup [.int k.1, .int k.2])) ts ks' → H p = none → Q (.ref p) (upd H p (.lst (ts.map V.ref)))
theorem refs_of_vals : ∀ {us : List Value}, (∀ u ∈ us, ∃ a, u = Value.ref a) → ∃ ts : List Addr, us = ts.map Value.ref
  | [], _ => ⟨[], rfl⟩
  | u :: us, h => by
    obtain ⟨a, rfl⟩ := h u List.mem_cons_self
    obtain ⟨ts, rfl⟩ := refs_of_vals (us := us) fun v hv => h v (List.mem_cons_of_mem _ hv)
    exact ⟨a :: ts, rfl⟩
def adV : Value → Addr
  | .ref a => a
  | _ => 0
theorem adV_map : ∀ ts : List Addr, (ts.map Value.ref).map adV = ts
  | [] => rfl
  | t :: ts => congrArg (t :: ·) (adV_map ts)
theorem vals_refs : ∀ ts : List Addr, Vals (ts.map V.ref) (ts.map Value.ref)
  | [] => .nil
  | t :: ts => .cons (show RelV (.ref t) (.ref t) from rfl) (vals_refs ts)
theorem call_sortedDT {X : Cx} (hcalm : X.calm = true) : CallR X (.builtin "sorted") rSortDT := by
  intro pins s σ H xs us Q I r q
  obtain ⟨a, kvs, ks, ex, hd, hks, q⟩ := q
  subst ex
  obtain rfl := Vals.ref1 r
  obtain ⟨z, lo, xs', rel, o, es, ep, ho, hx, hdat, hes, his, hn⟩ := dt_of I.hok hd
  have hl : kvs.length = xs'.length := Paired.length rel
  have l2 : es.size = xs'.length := size_of_entries hes
  have hpk := kt_at rel hks
  refine Calls.call_function_entry PyProof.Rows.kind_sorted PyProof.Rows.plain_sorted PyProof.Rows.entry_sorted (PyProof.Rows.args_sorted1 _) ?_
  unfold Builtin.«sorted»
  refine wpAny_bind (m := checkCount "sorted" 1 1 _) (wpAny_pure ?_)
  refine wpAny_bind (PySem.W.kdu_collect (A := X.A.in1) (PySem.KdlSrc.rawDict (es := es) (ep := ep) lo) (I.ok.hd hcalm) ⟨o, ho, hx, hdat⟩ (by omega) fun h' tk acc hk hacc => ?_)
  have hal : acc.toList.length = xs'.length := by rw [Array.length_toList, hacc.1, l2]
  have hvs : acc.toList = (xs'.map (·.2.1)).map Value.ref := by
    refine List.ext_getElem? fun j => ?_
    rw [List.getElem?_map, List.getElem?_map]
    cases e : acc.toList[j]? with
    | none =>
      have := List.getElem?_eq_none_iff.mp e
      rw [List.getElem?_eq_none (by omega)]
      rfl
    | some v =>
      obtain ⟨hi, ev⟩ := hacc.2 j v (by rw [← Array.getElem?_toList]; exact e)
      have e1 := entry_at hes j
      rw [Array.getElem?_eq_getElem hi] at e1
      cases ex : xs'[j]? with
      | none => rw [ex] at e1; cases e1
      | some x =>
        rw [ex] at e1
        have e2 : es[j] = entryOfKey _ x := Option.some.inj e1
        rw [ev, e2]
        rfl
  have I1 : Inv X pins σ H { s with heap := h', toks := tk } := I.kept hk
  have hz : acc.toList.length ≤ sizeLine := by omega
  refine wpAny_bind (wpAny_newList ?_ hz)
  have hoL : (h'.push (seqObj "list" acc.toList.toArray 0)).get? h'.objs.size = some (seqObj "list" acc.toList.toArray 0) := Heap.get?_push_size _ rfl
  have hp : ∀ v ∈ acc.toList, Srt.IsPair h' v (pairAt H v).1 (pairAt H v).2 := fun v hv => by
    rw [hvs] at hv
    obtain ⟨t, ht, rfl⟩ := List.mem_map.mp hv
    have gen : ∀ {l : List Addr} {k : List (Int × Int)}, Paired (fun t (k : Int × Int) => H t = some (.tup [.int k.1, .int k.2])) l k → ∀ t ∈ l, ∃ k, H t = some (.tup [.int (k : Int × Int).1, .int k.2]) := by
      intro l k q
      induction q with
      | nil => intro b hb; cases hb
      | cons h _ ih =>
        intro b hb
        rcases List.mem_cons.mp hb with rfl | hb
        · exact ⟨_, h⟩
        · exact ih b hb
    obtain ⟨k, hk'⟩ := gen hpk t ht
    rw [pairAt_of hk']
    exact pair_is I1.hok hk'
  show wpAny _ _ _ _ _ { s with heap := h'.push (seqObj "list" acc.toList.toArray 0), toks := tk }
  refine wpAny_bind (wpAny_holding (wpAny_call_entry PyProof.Rows.slot_list_sort ⟨_, hoL, rfl⟩ PyProof.Rows.entry_list_sort
    (SrtO.list_sort_ord (s := { s with heap := h'.push (seqObj "list" acc.toList.toArray 0), toks := tk }) (SrtO.swo_lex (pairAt H)) hoL hz (fun h2 => ?_) fun out hs hb => ⟨_, rfl, ?_⟩) (PyProof.Rows.args_list_sort _)))
  · refine SrtO.pairs_sortableO (s := { s with heap := h'.push (seqObj "list" acc.toList.toArray 0), toks := tk }) (by omega) (fun v hm => (hp v hm).keeps fun b o e _ => Heap.get?_push_of_some _ e) fun o e => ?_
    have e' : some o = some (seqObj "list" acc.toList.toArray 0) := e.symm.trans hoL
    cases e'
    intro c
    exact absurd (Value.type.inj c) (by decide)
  obtain ⟨e', he'⟩ := PyProof.Rows.sortedHeap_at (vs := acc.toList) (out := out.toArray) hoL
  obtain ⟨ts, rfl⟩ := refs_of_vals (us := out) fun u hu => by
    have := hb.perm.mem_iff.mp hu
    rw [hvs] at this
    obtain ⟨t, _, rfl⟩ := List.mem_map.mp this
    exact ⟨t, rfl⟩
  have hperm : ts.Perm (xs'.map (·.2.1)) := by
    have h1 := hb.perm
    rw [hvs] at h1
    have h2 := h1.map adV
    rw [adV_map, adV_map] at h2
    exact h2
  obtain ⟨ks', p1, p2⟩ := paired_perm hperm hpk
  have hpw : ks'.Pairwise (fun x y => SrtO.lexB y x = false) := paired_pw (R := fun a b => SrtO.lexB (pairAt H (.ref b)) (pairAt H (.ref a)) = false) (fun a b c d h1 h2 h3 => by
    rw [pairAt_of h1, pairAt_of h2] at h3
    exact h3) p2 (List.pairwise_map.mp hs)
  have hlen : (ts.map V.ref).length ≤ sizeLine := by
    rw [List.length_map, hperm.length_eq, List.length_map]
    omega
  refine wpAny_pure ⟨_, rfl, .ref h'.objs.size, upd H h'.objs.size (.lst (ts.map V.ref)), I1.laid (t' := tk) (fun b u e => ?_) (Nat.le_refl _)
    (show ObjOk X.prog X.w _ _ _ (.lst (ts.map V.ref)) from ⟨hlen, ts.map Value.ref, e', vals_refs ts, he'⟩), rfl, q ts ks' _ p1 hpw p2 (I1.hok.fresh (Nat.le_refl _))⟩
  have hb : b < h'.objs.size := Heap.lt_size e
  rw [PyProof.Rows.sortedHeap_old (Nat.ne_of_lt hb) (by rw [size_push']; exact Nat.lt_succ_of_lt hb)]
  exact Heap.get?_push_of_some _ e
/-! min and max of a pair -/
section
variable {prog : Program} {w : World} {A : Around} {E : Value → Shared → Prop} {s : Shared}
theorem pairs_fp {l : Addr} {o : Obj} (hl : l < s.heap.objs.size) : ∀ b ∈ [s.heap.objs.size, l], b < (s.heap.push o).objs.size := fun b hb => by
  rw [Heap.size_push]
  rcases List.mem_cons.mp hb with rfl | hb
  · exact Nat.lt_succ_self _
  · rw [List.mem_singleton.mp hb]
    exact Nat.lt_succ_of_lt hl
theorem max_pair {l : Addr} {a b : Int} {t u : Tok} {Q : Value → Shared → Prop} (hh : A.handled = none) (hT : s.heap.IsTuple l (intItems #[(a, t), (b, u)]))
    (h : ∀ h' tk, (∀ c o, s.heap.get? c = some o → h'.get? c = some o) → Q (if b > a then .int b u else .int a t) { s with heap := h', toks := tk }) : wpAny (model prog w) A (call (.builtin "max") [.ref l]) Q E s := by
  have hlt : l < s.heap.objs.size := by obtain ⟨_, e, _⟩ := hT; exact Heap.lt_size e
  refine call_max_walk (wpAny_pyIter_tuple hT ?_)
  refine ⟨_, [_, l], [_], _, _, _, _, rfl, Walks.tuple (A := A.in1) hh _ l (Nat.ne_of_lt hlt) (intItems #[(a, t), (b, u)]), ⟨⟨_, Heap.get?_push_size _ rfl, rfl, rfl⟩, hT.push _⟩, pairs_fp hlt, by simp [intItems], CmpOf.ints_gt (numAt #[(a, t), (b, u)]) (fun _ _ => intItems_at), fun v h' tk hP hk => ?_⟩
  have hold : ∀ c o, s.heap.get? c = some o → h'.get? c = some o := fun c o e => by
    refine hk c o (fun hm => ?_) (Heap.get?_push_of_some _ e)
    have e1 := List.mem_singleton.mp hm
    have := Heap.lt_size e
    rw [e1] at this
    exact Nat.lt_irrefl _ this
  have := h h' tk hold
  have hv : v = if b > a then Value.int b u else Value.int a t := by
    have hP' : (intItems #[(a, t), (b, u)])[argBest (fun i j => decide (numAt #[(a, t), (b, u)] i > numAt #[(a, t), (b, u)] j)) 1]? = some v := by
      have hsz2 : (intItems #[(a, t), (b, u)]).size - 1 = 1 := by simp [intItems]
      rw [← hsz2]; exact hP
    by_cases hba : b > a
    · have e : argBest (fun i j => decide (numAt #[(a, t), (b, u)] i > numAt #[(a, t), (b, u)] j)) 1 = 1 := by simp [argBest, numAt, hba]
      rw [e] at hP'
      simpa [intItems, hba] using hP'.symm
    · have e : argBest (fun i j => decide (numAt #[(a, t), (b, u)] i > numAt #[(a, t), (b, u)] j)) 1 = 0 := by simp [argBest, numAt, hba]
      rw [e] at hP'
      simpa [intItems, hba] using hP'.symm
  rw [hv]; exact this
theorem min_pair {l : Addr} {a b : Int} {t u : Tok} {Q : Value → Shared → Prop} (hh : A.handled = none) (hT : s.heap.IsTuple l (intItems #[(a, t), (b, u)]))
    (h : ∀ h' tk, (∀ c o, s.heap.get? c = some o → h'.get? c = some o) → Q (if b < a then .int b u else .int a t) { s with heap := h', toks := tk }) : wpAny (model prog w) A (call (.builtin "min") [.ref l]) Q E s := by
  have hlt : l < s.heap.objs.size := by obtain ⟨_, e, _⟩ := hT; exact Heap.lt_size e
  refine call_min_walk (wpAny_pyIter_tuple hT ?_)
  refine ⟨_, [_, l], [_], _, _, _, _, rfl, Walks.tuple (A := A.in1) hh _ l (Nat.ne_of_lt hlt) (intItems #[(a, t), (b, u)]), ⟨⟨_, Heap.get?_push_size _ rfl, rfl, rfl⟩, hT.push _⟩, pairs_fp hlt, by simp [intItems], CmpOf.ints_lt (numAt #[(a, t), (b, u)]) (fun _ _ => intItems_at), fun v h' tk hP hk => ?_⟩
  have hold : ∀ c o, s.heap.get? c = some o → h'.get? c = some o := fun c o e => by
    refine hk c o (fun hm => ?_) (Heap.get?_push_of_some _ e)
    have e1 := List.mem_singleton.mp hm
    have := Heap.lt_size e
    rw [e1] at this
    exact Nat.lt_irrefl _ this
  have := h h' tk hold
  have hv : v = if b < a then Value.int b u else Value.int a t := by
    have hP' : (intItems #[(a, t), (b, u)])[argBest (fun i j => decide (numAt #[(a, t), (b, u)] i < numAt #[(a, t), (b, u)] j)) 1]? = some v := by
      have hsz2 : (intItems #[(a, t), (b, u)]).size - 1 = 1 := by simp [intItems]
      rw [← hsz2]; exact hP
    by_cases hba : b < a
    · have e : argBest (fun i j => decide (numAt #[(a, t), (b, u)] i < numAt #[(a, t), (b, u)] j)) 1 = 1 := by simp [argBest, numAt, hba]
      rw [e] at hP'
      simpa [intItems, hba] using hP'.symm
    · have e : argBest (fun i j => decide (numAt #[(a, t), (b, u)] i < numAt #[(a, t), (b, u)] j)) 1 = 0 := by simp [argBest, numAt, hba]
      rw [e] at hP'
      simpa [intItems, hba] using hP'.symm
  rw [hv]; exact this
end
def rMaxP : List V → Hp → VK → Prop := fun xs H Q => ∃ (a : Addr) (i j : Int), xs = [.ref a] ∧ H a = some (.tup [.int i, .int j]) ∧ Q (.int (if j > i then j else i)) H
def rMinP : List V → Hp → VK → Prop := fun xs H Q => ∃ (a : Addr) (i j : Int), xs = [.ref a] ∧ H a = some (.tup [.int i, .int j]) ∧ Q (.int (if j < i then j else i)) H
section
variable {X : Cx}
theorem tup_ints {pins : List (Addr × Obj)} {σ : Si} {H : Hp} {s : Shared} {a : Addr} {i j : Int} (I : Inv X pins σ H s) (h : H a = some (.tup [.int i, .int j])) : ∃ t u, s.heap.IsTuple a (intItems #[(i, t), (j, u)]) := by
  obtain ⟨_, its, r, o, h1, h2, n, h3⟩ := (show ObjOk X.prog X.w H s.heap a (.tup [.int i, .int j]) from I.hok a _ h)
  obtain ⟨u1, u2, rfl, r1, r2⟩ := vals2 r
  obtain ⟨t1, rfl⟩ := r1
  obtain ⟨t2, rfl⟩ := r2
  exact ⟨t1, t2, o, h1, h2, n, by rw [h3]; simp [intItems]⟩
theorem cr_maxP (hc : X.calm = true) : CallR X (.builtin "max") rMaxP := by
  intro pins s σ H xs us Q I r h
  obtain ⟨a, i, j, rfl, ha, q⟩ := h
  obtain rfl := Vals.ref1 r
  obtain ⟨t, u, hT⟩ := tup_ints I ha
  refine max_pair (I.ok.hd hc) hT fun h' tk hk => ⟨.int (if j > i then j else i), H, I.kept hk, ?_, q⟩
  split
  · exact ⟨u, rfl⟩
  · exact ⟨t, rfl⟩
theorem cr_minP (hc : X.calm = true) : CallR X (.builtin "min") rMinP := by
  intro pins s σ H xs us Q I r h
  obtain ⟨a, i, j, rfl, ha, q⟩ := h
  obtain rfl := Vals.ref1 r
  obtain ⟨t, u, hT⟩ := tup_ints I ha
  refine min_pair (I.ok.hd hc) hT fun h' tk hk => ⟨.int (if j < i then j else i), H, I.kept hk, ?_, q⟩
  split
  · exact ⟨u, rfl⟩
  · exact ⟨t, rfl⟩
end
/-! readings taken apart -/
section
variable {H : Hp} {Q : VK} {x v : V}
end
end Ko

/-! q is N over D: sums and products by their numerators over a common denominator -/
namespace Xm
def Is (D N : Int) (q : Pq) : Prop := Lo q ∧ q.1 * D = N * q.2
section
variable {D E N M : Int} {p q : Pq}
theorem Is.low {n d : Int} (hd : 0 < d) (hD : D ≠ 0) (h : n * D = N * d) : Is D N (low n d) := by
  refine ⟨low_lo hd, ?_⟩
  have v := low_val (n := n) (d := d) (by omega)
  refine Int.eq_of_mul_eq_mul_right (a := d) (by omega) ?_
  generalize (Xm.low n d).1 = a at *
  generalize (Xm.low n d).2 = b at *
  have e1 : a * D * d = (a * d) * D := by grind
  have e2 : N * b * d = (N * d) * b := by grind
  rw [e1, e2, v, ← h]
  grind
theorem Is.add (hD : D ≠ 0) (h : Is D N p) (k : Is D M q) : Is D (N + M) (add p q) := by
  obtain ⟨lp, e⟩ := h
  obtain ⟨lq, f⟩ := k
  refine Is.low (mul_pos' lp.1 lq.1) hD ?_
  generalize p.1 = a at *
  generalize p.2 = b at *
  generalize q.1 = c at *
  generalize q.2 = d at *
  have e1 : (a * d + c * b) * D = (a * D) * d + (c * D) * b := by grind
  rw [e1, e, f]
  grind
theorem Is.sub (hD : D ≠ 0) (h : Is D N p) (k : Is D M q) : Is D (N - M) (sub p q) := by
  obtain ⟨lp, e⟩ := h
  obtain ⟨lq, f⟩ := k
  refine Is.low (mul_pos' lp.1 lq.1) hD ?_
  generalize p.1 = a at *
  generalize p.2 = b at *
  generalize q.1 = c at *
  generalize q.2 = d at *
  have e1 : (a * d - c * b) * D = (a * D) * d - (c * D) * b := by grind
  rw [e1, e, f]
  grind
theorem Is.mul (hD : D ≠ 0) (hE : E ≠ 0) (h : Is D N p) (k : Is E M q) : Is (D * E) (N * M) (mul p q) := by
  obtain ⟨lp, e⟩ := h
  obtain ⟨lq, f⟩ := k
  refine Is.low (mul_pos' lp.1 lq.1) (by
    intro z
    rcases Int.mul_eq_zero.mp z with z | z
    · exact hD z
    · exact hE z) ?_
  generalize p.1 = a at *
  generalize p.2 = b at *
  generalize q.1 = c at *
  generalize q.2 = d at *
  have e1 : a * c * (D * E) = (a * D) * (c * E) := by grind
  rw [e1, e, f]
  grind
theorem Is.inj (hD : D ≠ 0) (h : Is D N p) (k : Is D N q) : p = q := by
  obtain ⟨lp, e⟩ := h
  obtain ⟨lq, f⟩ := k
  refine lo_unique lp lq (Int.eq_of_mul_eq_mul_right (a := D) hD ?_)
  generalize p.1 = a at *
  generalize p.2 = b at *
  generalize q.1 = c at *
  generalize q.2 = d at *
  have e1 : a * d * D = (a * D) * d := by grind
  have e2 : c * b * D = (c * D) * b := by grind
  rw [e1, e2, e, f]
  grind
theorem Is.scale (c : Int) (h : Is D N q) : Is (D * c) (N * c) q := by
  obtain ⟨l, e⟩ := h
  refine ⟨l, ?_⟩
  have e1 : q.1 * (D * c) = (q.1 * D) * c := by grind
  rw [e1, e]
  grind
theorem Is.eq (h : Is D N q) (e : N = M) : Is D M q := e ▸ h
theorem Is.den (hD : 0 < D) (h : Is D N q) : 0 < q.2 ∧ q.2 ≤ D ∧ q.1.natAbs ≤ N.natAbs := by
  obtain ⟨l, e⟩ := h
  have g : q.2 ∣ D := by
    have h1 : q.2.natAbs ∣ q.1.natAbs * D.natAbs := by
      rw [← Int.natAbs_mul]
      exact Int.natAbs_dvd_natAbs.mpr ⟨N, by rw [e]; exact Int.mul_comm ..⟩
    exact Int.natAbs_dvd_natAbs.mp (Nat.Coprime.dvd_of_dvd_mul_left (Nat.Coprime.symm l.2) h1)
  obtain ⟨k, hk⟩ := g
  have l1 := l.1
  have k0 : 0 < k := by
    rcases Int.lt_trichotomy 0 k with c | c | c
    · exact c
    · rw [← c] at hk
      omega
    · have := Int.mul_neg_of_pos_of_neg l1 c
      omega
  have eN : N = q.1 * k := by
    refine (Int.eq_of_mul_eq_mul_right (a := q.2) (by omega) ?_).symm
    rw [← e, hk]
    grind
  refine ⟨l1, Int.le_of_dvd hD ⟨k, hk⟩, ?_⟩
  rw [eN, Int.natAbs_mul]
  exact Nat.le_mul_of_pos_right _ (by omega)
theorem Is.int (n : Int) : Is D (n * D) (n, 1) := ⟨lo_int n, by show n * D = n * D * 1; omega⟩
theorem Is.ofDvd (l : Lo q) (h : q.2 ∣ D) : Is D (q.1 * (D / q.2)) q := by
  refine ⟨l, ?_⟩
  obtain ⟨k, hk⟩ := h
  have l1 := l.1
  rw [hk, Int.mul_ediv_cancel_left _ (by omega)]
  grind
theorem Is.under (hD : 0 < D) (h : Is D N p) (k : Is D M q) : under p q = decide (N < M) := by
  obtain ⟨lp, e⟩ := h
  obtain ⟨lq, f⟩ := k
  unfold Xm.under
  have b0 := lp.1
  have d0 := lq.1
  generalize p.1 = a at *
  generalize p.2 = b at *
  generalize q.1 = c at *
  generalize q.2 = d at *
  have bd := mul_pos' b0 d0
  have e1 : a * d * D = N * (b * d) := by
    have : a * d * D = (a * D) * d := by grind
    rw [this, e]
    grind
  have e2 : c * b * D = M * (b * d) := by
    have : c * b * D = (c * D) * b := by grind
    rw [this, f]
    grind
  by_cases c1 : N < M
  · rw [decide_eq_true c1]
    refine decide_eq_true ?_
    have := Int.mul_lt_mul_of_pos_right c1 bd
    exact Int.lt_of_mul_lt_mul_right (a := D) (by rw [e1, e2]; exact this) (by omega)
  · rw [decide_eq_false c1]
    refine decide_eq_false fun z => ?_
    have := Int.mul_lt_mul_of_pos_right z hD
    rw [e1, e2] at this
    exact c1 (Int.lt_of_mul_lt_mul_right this (by omega))
end
end Xm


namespace Ko
open PySem L2 PySem.Spec PyProof.Rows Xm
def spWhole : Sp := fun vs H Q _ => ∃ v d, vs = [v] ∧ Dq H v d ∧ Q (.bl d.isInt) H
def spFrac : Sp := fun vs H Q _ => ∃ v d, vs = [v] ∧ Dq H v d ∧ Q (.bl d.isFrac) H
def spNum : Sp := fun vs H Q _ => ∃ v d, vs = [v] ∧ Dq H v d ∧ Q (.bl d.isNum) H
def spPair : Sp := fun vs H Q _ => ∃ x q, vs = [x] ∧ Nm H x q ∧ Ret H Q q
def spReduced : Sp := fun vs H Q _ => ∃ n d : Int, vs = [.int n, .int d] ∧ d ≠ 0 ∧ d.natAbs < 2 ^ 8900 ∧ Ret H Q (red n d)
def spOp (op : Pq → Pq → Pq) : Sp := fun vs H Q _ => ∃ x y p q, vs = [x, y] ∧ Nm H x p ∧ Nm H y q ∧ Lo p ∧ Lo q ∧ Sz 4400 p ∧ Sz 4400 q ∧ Ret H Q (op p q)
def spBelow : Sp := fun vs H Q _ => ∃ x y p q, vs = [x, y] ∧ Pr H x p ∧ Pr H y q ∧ Sz 4400 p ∧ Sz 4400 q ∧ Q (.bl (under p q)) H
def spCompare : Sp := fun vs H Q _ => ∃ x y p q, vs = [x, y] ∧ Nm H x p ∧ Nm H y q ∧ Sz 4400 p ∧ Sz 4400 q ∧ ∀ H', Same H H' → Q (.int (if under p q = true then -1 else if under q p = true then 1 else 0)) H'
section
variable {K : Fg} {H : Hp} {Q : VK} {E : XK} {x y v : V} {p q : Pq} {d : Dt}
theorem sp_whole (h : Dq H v d) (k : Q (.bl d.isInt) H) : spWhole [v] H Q E := ⟨v, d, rfl, h, k⟩
theorem sp_frac (h : Dq H v d) (k : Q (.bl d.isFrac) H) : spFrac [v] H Q E := ⟨v, d, rfl, h, k⟩
theorem sp_num (h : Dq H v d) (k : Q (.bl d.isNum) H) : spNum [v] H Q E := ⟨v, d, rfl, h, k⟩
theorem sp_pair (h : Nm H x q) (k : Ret H Q q) : spPair [x] H Q E := ⟨x, q, rfl, h, k⟩
theorem sp_reduced {n d : Int} (k : Ret H Q (red n d)) (h : d ≠ 0) (s : d.natAbs < 2 ^ 8900) : spReduced [.int n, .int d] H Q E := ⟨n, d, rfl, h, s, k⟩
theorem sp_op {op : Pq → Pq → Pq} (hx : Nm H x p) (hy : Nm H y q) (lp : Lo p) (lq : Lo q) (sp : Sz 4400 p) (sq : Sz 4400 q) (k : Ret H Q (op p q)) : spOp op [x, y] H Q E := ⟨x, y, p, q, rfl, hx, hy, lp, lq, sp, sq, k⟩
theorem sp_below (hx : Pr H x p) (hy : Pr H y q) (sp : Sz 4400 p) (sq : Sz 4400 q) (k : Q (.bl (under p q)) H) : spBelow [x, y] H Q E := ⟨x, y, p, q, rfl, hx, hy, sp, sq, k⟩
end
theorem sz_mul {a b : Int} (ha : a.natAbs < 2 ^ 4400) (hb : b.natAbs < 2 ^ 4400) : CMulW a b := wide_mul ha hb (by decide) (by decide) (by decide)
theorem sz_mulD {a b : Int} (ha : a.natAbs < 2 ^ 4400) (hb : b.natAbs < 2 ^ 4400) : (a * b).natAbs < 2 ^ 8900 := Nat.lt_of_lt_of_le (wide_lt ha hb) (Nat.pow_le_pow_right (by decide) (by decide))

local macro_rules | `(tactic| walk_at "hpS") => `(tactic| with_reducible first
  | exact Same.refl _
  | assumption
  | (refine' Same.trans ?hq (same_new (by assumption)); (case hq => walk_at "hpS"))
  | (refine' Same.trans ?hq (by assumption); (case hq => walk_at "hpS"))
  | fail)
local macro_rules | `(tactic| walk_at "hpH") => `(tactic| with_reducible first
  | assumption
  | exact upd_same
  | (refine' same_at (same_new (by assumption)) ?hq; (case hq => walk_at "hpH"))
  | (refine' same_at (by assumption) ?hq; (case hq => walk_at "hpH"))
  | fail)
local macro_rules | `(tactic| walk_at "hpTo") => `(tactic| with_reducible first
  | assumption
  | (refine' sq_t (same_new (by assumption)) ?hq; (case hq => walk_at "hpTo"))
  | (refine' sq_t (by assumption) ?hq; (case hq => walk_at "hpTo"))
  | fail)
local macro_rules | `(tactic| walk_at "hpT") => `(tactic| with_reducible first
  | (refine' SqT.of ?hq; (case hq => walk_at "hpH"))
  | walk_at "hpTo"
  | fail)
local macro_rules | `(tactic| walk_at "hpLo") => `(tactic| with_reducible first
  | assumption
  | (refine' sq_l (same_new (by assumption)) ?hq; (case hq => walk_at "hpLo"))
  | (refine' sq_l (by assumption) ?hq; (case hq => walk_at "hpLo"))
  | fail)
local macro_rules | `(tactic| walk_at "hpL") => `(tactic| with_reducible first
  | (refine' SqL.of ?hq; (case hq => walk_at "hpH"))
  | walk_at "hpLo"
  | fail)
local macro_rules | `(tactic| walk_at "kit") => `(tactic| with_reducible first
  | exact kit_int_bool | exact kit_int_int | exact kit_int_tuple | exact kit_int_list | exact kit_int_str
  | exact kit_tuple_tuple | exact kit_tuple_int | exact kit_tuple_bool | exact kit_tuple_list | exact kit_tuple_str
  | exact kit_bool_bool | exact kit_bool_int | exact kit_bool_tuple | exact kit_bool_list | exact kit_bool_str
  | exact kit_str_str | exact kit_str_int | exact kit_str_bool | exact kit_str_tuple | exact kit_str_list
  | exact kit_NoneType_int | exact kit_NoneType_bool | exact kit_NoneType_tuple | exact kit_NoneType_list | exact kit_NoneType_str
  | exact kit_list_list | exact kit_list_tuple | exact kit_list_int | exact kit_list_bool | exact kit_list_str
  | fail)
local macro_rules | `(tactic| walk_at "call") => `(tactic| fail)
local macro_rules | `(tactic| walk_at "s0") => `(tactic| with_reducible first
  | refine g_seq ?_ | refine g_asg ?_ | refine g_name ?_ | refine g_ifS ?_ | refine g_ret ?_ | refine g_retN ?_ | refine g_next ?_
  | refine g_par ?_ | refine g_parE ?_ | refine g_drop ?_
  | refine g_c ?_ | refine g_op ?_ | refine g_un ?_ | refine g_cb ?_ | refine g_call ?_ | refine g_nil ?_ | refine g_cons ?_ | refine g_tup ?_ | refine g_lst ?_
  | refine g_test ?_ | refine g_B ?_ | refine g_blF ?_ | refine g_and ?_ | refine g_or ?_ | refine g_not ?_ | refine g_andV ?_ | refine g_orV ?_ | refine g_notV ?_ | refine g_if ?_
  | refine iteT ?_ | refine iteF ?_
  | refine g_chain ?_ | refine g_sl ?_ | refine g_noPart ?_ | refine g_part ?_ | refine g_partI ?_ | refine g_slS ?_ ?side | refine g_M1 ?_ | refine g_M1s ?_ | refine g_starts ?_ | refine g_bm ?_ | refine g_bm0 ?_ | refine g_tyS ?_
  | refine g_Fs ?_ | refine g_JsN ?_ | refine g_JsC ?_ | refine g_JsE ?_ ?side | refine g_fmt ?_ | refine g_fmtI ?_ ?side | refine g_fmtS ?_ ?side | refine g_iList ?_ | refine g_iTup ?_ | refine g_iStr ?_ | refine g_iStrE ?_ | refine g_iRng1 ?_ | refine g_iRng1E ?_ ?side1 ?side2 | refine g_yes ?_ | refine g_ckw ?_ | refine g_dget ?_ | refine g_dictZip ?_ | refine g_gCons ?_ | refine g_gNil ?_ | refine g_revL ?_ | refine g_for ?_ | refine g_lc ?_ | refine g_addS ?_ ?side | refine g_str ?_ ?side | refine g_lenS ?_ ?side
  | refine g_rI0 ?_ | refine g_rI ?_ ?side | refine g_rU ?_ | refine g_abs ?_ | refine g_int ?_ | refine g_intB ?_ | refine g_gcd ?_ | refine g_inS ?_ | refine g_isN0 ?_ | refine g_notN0 ?_
  | fail)
local macro_rules | `(tactic| walk_at "s1") => `(tactic| first
  | ((with_reducible refine' g_var ?h ?_); (case h => exact rfl))
  | ((with_reducible refine' g_new ?h ?_); (case h => exact (by simp only [List.length_cons, List.length_nil]; decide)); intro tnew htnew)
  | ((with_reducible refine' iteDT ?h ?_); (case h => first | exact rfl | assumption))
  | ((with_reducible refine' iteNT ?h ?_); (case h => first | exact rfl | assumption))
  | ((with_reducible refine' iteDF ?h ?_); (case h => first | assumption | (intro z; cases z)))
  | ((with_reducible refine' iteNF ?h ?_); (case h => first | assumption | (intro z; cases z)))
  | ((with_reducible refine' g_eq ?_ ?h); (case h => exact rfl))
  | ((with_reducible refine' g_ne ?_ ?h); (case h => exact rfl))
  | ((with_reducible refine' g_ixT ?_ ?h ?e); (case h => walk_at "hpT"); (case e => first | exact rfl | exact atI_0 | exact atI_1))
  | ((with_reducible refine' g_ixL ?_ ?h ?e); (case h => walk_at "hpL"); (case e => first | exact rfl | exact atI_0 | exact atI_1))
  | ((with_reducible refine' g_isi_int ?_ ?h); (case h => walk_at "kit"))
  | ((with_reducible refine' g_isi_str ?_ ?h); (case h => walk_at "kit"))
  | ((with_reducible refine' g_isi_bl ?_ ?h); (case h => walk_at "kit"))
  | ((with_reducible refine' g_isi_non ?_ ?h); (case h => walk_at "kit"))
  | ((with_reducible refine' g_isi_t ?_ ?t ?h); (case t => walk_at "hpT"); (case h => walk_at "kit"))
  | ((with_reducible refine' g_isi_l ?_ ?t ?h ?l); (case l => walk_at "hpH"); (case t => walk_at "hpL"); (case h => walk_at "kit"))
  | ((with_reducible refine' g_lenT ?_ ?h); (case h => walk_at "hpT"))
  | ((with_reducible refine' g_lenL ?_ ?h); (case h => walk_at "hpL"))
  | ((with_reducible refine' g_split ?_ ?h ?side); (case h => exact rfl); intro pnew hpnew)
  | ((with_reducible refine' g_slL ?h ?_); (case h => walk_at "hpL"); intro pnew hpnew)
  | ((with_reducible refine' g_iListE ?_ ?h); (case h => walk_at "hpL"))
  | ((with_reducible refine' g_iTupE ?_ ?h); (case h => walk_at "hpT"))
  | ((with_reducible refine' g_tyL ?_ ?h); (case h => walk_at "hpL"))
  | ((with_reducible refine' g_join ?_ ?h ?side); (case h => walk_at "hpL"))
  | ((with_reducible refine' g_append ?_ ?h ?side); (case h => walk_at "hpH"))
  | ((with_reducible refine' g_all ?_ ?h); (case h => walk_at "hpL"))
  | ((with_reducible refine' g_gTup ?_ ?h ?n); (case h => walk_at "hpT"); (case n => exact rfl))
  | ((with_reducible refine' g_revLE ?h ?_); (case h => walk_at "hpL"); intro pnew hpnew)
  | ((with_reducible refine' g_isN1 ?_ ?h); (case h => first | assumption | (intro z; cases z)))
  | ((with_reducible refine' g_notN1 ?_ ?h); (case h => first | assumption | (intro z; cases z)))
  | walk_at "call"
  | ((with_reducible refine' iteBT ?h ?_); (case h => first | assumption | exact rfl))
  | ((with_reducible refine' iteBF ?h ?_); (case h => first | assumption | exact rfl))
  | fail)
local macro_rules | `(tactic| walk_at "nrm") => `(tactic| simp only [Bool.not_true, Bool.not_false, decide_eq_true_eq, decide_true, decide_false, Bool.true_and, Bool.false_and, Bool.and_true, Bool.and_false, V.int.injEq, V.bl.injEq, V.str.injEq, List.length_cons, List.length_nil, Bool.not_eq_true', decide_eq_false_iff_not, Int.not_lt, Int.not_le, reduceCtorEq, not_false_eq_true, not_true_eq_false, Decidable.not_not] at *)
local macro_rules | `(tactic| walk_at "sp") => `(tactic| ((with_reducible refine ite2 (fun c => ?_) (fun c => ?_)) <;> (try simp only [decide_eq_true_eq, Bool.not_eq_true', decide_eq_false_iff_not, V.int.injEq, V.bl.injEq, V.str.injEq, Int.not_lt, Int.not_le, reduceCtorEq, Decidable.not_not, Bool.false_eq_true, Bool.true_eq_false] at c) <;> (try (exfalso; omega))))
local macro_rules | `(tactic| walk_at "s") => `(tactic| first | walk_at "s0" | walk_at "s1" | fail)
local macro_rules | `(tactic| walk_at "go") => `(tactic| (try dsimp only [cxK, cxK']); repeat' walk_at "s")
local macro_rules | `(tactic| walk_at "gos") => `(tactic| ((try dsimp only [cxK, cxK']); repeat' (first | walk_at "s" | walk_at "sp" | fail)))

local macro_rules | `(tactic| walk_at "hpNo") => `(tactic| with_reducible first
  | assumption
  | (refine' Nm.ofPr ?hq; (case hq => assumption))
  | (refine' Nm.same (same_new (by assumption)) ?hq; (case hq => walk_at "hpNo"))
  | (refine' Nm.same (by assumption) ?hq; (case hq => walk_at "hpNo"))
  | fail)
local macro_rules | `(tactic| walk_at "hpN") => `(tactic| with_reducible first
  | walk_at "hpNo"
  | (refine' Nm.of ?hq; (case hq => walk_at "hpH"))
  | fail)
local macro_rules | `(tactic| walk_at "hpPo") => `(tactic| with_reducible first
  | assumption
  | (refine' Pr.same (same_new (by assumption)) ?hq; (case hq => walk_at "hpPo"))
  | (refine' Pr.same (by assumption) ?hq; (case hq => walk_at "hpPo"))
  | fail)
local macro_rules | `(tactic| walk_at "hpP") => `(tactic| with_reducible first
  | walk_at "hpPo"
  | (refine' Pr.of ?hq; (case hq => walk_at "hpH"))
  | fail)
local macro_rules | `(tactic| walk_at "hpDo") => `(tactic| with_reducible first
  | assumption
  | exact Dq.int _ | exact Dq.bl _ | exact Dq.str _ | exact Dq.non
  | (refine' Dq.same (same_new (by assumption)) ?hq; (case hq => walk_at "hpDo"))
  | (refine' Dq.same (by assumption) ?hq; (case hq => walk_at "hpDo"))
  | fail)
local macro_rules | `(tactic| walk_at "hpD") => `(tactic| with_reducible first
  | walk_at "hpDo"
  | fail)

local macro_rules | `(tactic| walk_at "call") => `(tactic| first
  | ((with_reducible refine' sp_pair ?h ?_); (case h => walk_at "hpN"); intro tp Hp' sp' hp')
  | ((with_reducible refine' sp_reduced ?_ ?h ?s); intro tp Hp' sp' hp')
  | ((with_reducible refine' sp_whole ?h ?_); (case h => walk_at "hpD"))
  | ((with_reducible refine' sp_frac ?h ?_); (case h => walk_at "hpD"))
  | ((with_reducible refine' sp_below ?h1 ?h2 ?s1 ?s2 ?_); (case h1 => walk_at "hpP"); (case h2 => walk_at "hpP"); (case s1 => assumption); (case s2 => assumption))
  | fail)
section
variable {P : Program} {w : World} {K : Fg} {mg : Str → Option Value} {base : Heap} {f f1 f2 f3 : Addr} {fd : FuncData}
theorem ok_pair (F : Fun K "pair" "pair" s_pair f fd) (T : Blt mg) : FnOk P w K mg base CX0 1 f fd ["a"] spPair := by
  refine F.ok sc_pair (fun vs H Q E h => ?_) (fun cdv A outer s H vs Q E hr h => ?_)
  · obtain ⟨x, q, rfl, _⟩ := h
    rfl
  · obtain ⟨x, q, rfl, hx, k⟩ := h
    refine ⟨_, (pss_cons (ps_if (pt_val (pe_callB (cg_isiK K) (by rfl) T.n_isinstance (by decide +kernel) (pa_cons (pv 0) (pa_cons (pe_bltn (v := .ty "int") (by rfl) T.n_int (by decide +kernel) rfl) pa_nil))))
      (pss_one (ps_ret (pe_tup (pa_cons (pv 0) (pa_cons pe_int pa_nil))))) pss_nil)
      (pss_one (ps_ret (pv 0)))), ?_⟩
    rcases hx with ⟨a, rfl, ha⟩ | ⟨rfl, e⟩
    · walk_at "go"
      exact k _ _ (Same.refl _) ha
    · walk_at "go"
      refine k _ _ ?_ ?_
      · walk_at "hpS"
      · rw [e]
        walk_at "hpH"
theorem ok_is_whole (F : Fun K "is_whole" "is_whole" s_is_whole f fd) (T : Blt mg) : FnOk P w K mg base CX0 1 f fd ["value"] spWhole := by
  refine F.ok sc_is_whole (fun vs H Q E h => ?_) (fun cdv A outer s H vs Q E hr h => ?_)
  · obtain ⟨x, q, rfl, _⟩ := h
    rfl
  · obtain ⟨x, d, rfl, hx, k⟩ := h
    refine ⟨_, (pss_one (ps_ret (pe_and (pe_callB (cg_isiK K) (by rfl) T.n_isinstance (by decide +kernel) (pa_cons (pv 0) (pa_cons (pe_bltn (v := .ty "int") (by rfl) T.n_int (by decide +kernel) rfl) pa_nil))) (pe_one (pe_not (pe_callB (cg_isiK K) (by rfl) T.n_isinstance (by decide +kernel) (pa_cons (pv 0) (pa_cons (pe_bltn (v := .ty "bool") (by rfl) T.n_bool (by decide +kernel) rfl) pa_nil)))))))), ?_⟩
    cases hx <;> (walk_at "go"; exact k)
theorem ok_is_fraction (F : Fun K "is_fraction" "is_fraction" s_is_fraction f fd) (T : Blt mg) (D_is_whole : Df P w K mg base 1 "is_whole" f1 ["value"] spWhole) : FnOk P w K mg base CX0 2 f fd ["value"] spFrac := by
  obtain ⟨_, G_is_whole, B_is_whole⟩ := D_is_whole.ok
  refine F.ok sc_is_fraction (fun vs H Q E h => ?_) (fun cdv A outer s H vs Q E hr h => ?_)
  · obtain ⟨x, q, rfl, _⟩ := h
    rfl
  · obtain ⟨x, d, rfl, hx, k⟩ := h
    refine ⟨_, (pss_one (ps_ret (pe_and (pe_callB (cg_isiK K) (by rfl) T.n_isinstance (by decide +kernel) (pa_cons (pv 0) (pa_cons (pe_bltn (v := .ty "tuple") (by rfl) T.n_tuple (by decide +kernel) rfl) pa_nil))) (pe_and (pe_cmpR op_eq (pe_callB (cg_lenK K) (by rfl) T.n_len (by decide +kernel) (pa_cons (pv 0) pa_nil)) pe_int (nomark _)) (pe_and (pe_call G_is_whole (hr.mono (by decide)) (by rfl) D_is_whole.g D_is_whole.kp B_is_whole .nil pass0 (pa_cons (pe_ix (ix_seqK K) (pv 0) pe_int (fun _ _ => rfl)) pa_nil)) (pe_one (pe_call G_is_whole (hr.mono (by decide)) (by rfl) D_is_whole.g D_is_whole.kp B_is_whole .nil pass0 (pa_cons (pe_ix (ix_seqK K) (pv 0) pe_int (fun _ _ => rfl)) pa_nil)))))))), ?_⟩
    cases hx with
    | @tup a xs ds ha hd =>
      match ds, hd with
      | [], .nil => walk_at "go"; exact k
      | [_], .cons _ .nil => walk_at "go"; exact k
      | [d1, d2], .cons h1 (.cons h2 .nil) =>
        walk_at "go"
        cases e1 : d1.isInt
        · walk_at "go"
          have e : Dt.isFrac (.tup [d1, d2]) = false := by simp [Dt.isFrac, e1]
          rw [e] at k
          exact k
        · walk_at "go"
          have e : Dt.isFrac (.tup [d1, d2]) = d2.isInt := by simp [Dt.isFrac, e1]
          rw [e] at k
          exact k
      | _ :: _ :: _ :: _, .cons _ (.cons _ (.cons _ r)) =>
        walk_at "go"
        exact k
    | _ => walk_at "go"; exact k
theorem ok_is_number (F : Fun K "is_number" "is_number" s_is_number f fd) (T : Blt mg) (hg : mg "gcd" = some (.builtin "math.gcd")) (D_is_whole : Df P w K mg base 1 "is_whole" f1 ["value"] spWhole) (D_is_fraction : Df P w K mg base 2 "is_fraction" f2 ["value"] spFrac) : FnOk P w K mg base CX0 3 f fd ["value"] spNum := by
  obtain ⟨_, G_is_whole, B_is_whole⟩ := D_is_whole.ok
  obtain ⟨_, G_is_fraction, B_is_fraction⟩ := D_is_fraction.ok
  refine F.ok sc_is_number (fun vs H Q E h => ?_) (fun cdv A outer s H vs Q E hr h => ?_)
  · obtain ⟨x, q, rfl, _⟩ := h
    rfl
  · obtain ⟨x, d, rfl, hx, k⟩ := h
    refine ⟨_, (pss_cons (ps_if (pt_val (pe_call G_is_whole (hr.mono (by decide)) (by rfl) D_is_whole.g D_is_whole.kp B_is_whole .nil pass0 (pa_cons (pv 0) pa_nil)))
      (pss_one (ps_ret pe_bl)) pss_nil)
      (pss_one (ps_ret (pe_and (pe_call G_is_fraction (hr.mono (by decide)) (by rfl) D_is_fraction.g D_is_fraction.kp B_is_fraction .nil pass0 (pa_cons (pv 0) pa_nil)) (pe_and (pe_cmpR op_gt (pe_ix (ix_seqK K) (pv 0) pe_int (fun _ _ => rfl)) pe_int (nomark _)) (pe_one (pe_cmpR op_eq (pe_callBfun cr_gcd (by rfl) hg (pa_cons (pe_ix (ix_seqK K) (pv 0) pe_int (fun _ _ => rfl)) (pa_cons (pe_ix (ix_seqK K) (pv 0) pe_int (fun _ _ => rfl)) pa_nil))) pe_int (nomark _)))))))), ?_⟩
    have hx' := hx
    cases hx with
    | int i => walk_at "go"; exact k
    | @tup a xs ds ha hd =>
      cases e : Dt.isFrac (.tup ds) with
      | false =>
        have e2 : Dt.isNum (.tup ds) = false := by
          unfold Dt.isFrac at e
          unfold Dt.isNum
          split <;> simp_all [Dt.isInt]
        rw [e2] at k
        walk_at "go"
        exact k
      | true =>
        obtain ⟨n, m, rfl⟩ : ∃ n m, ds = [.int n, .int m] := by
          unfold Dt.isFrac at e
          split at e
          · rename_i a b h
            cases h
            cases a <;> cases b <;> simp [Dt.isInt] at e
            exact ⟨_, _, rfl⟩
          · cases e
        match xs, hd with
        | [_, _], .cons (.int _) (.cons (.int _) .nil) =>
          by_cases c : 0 < m
          · walk_at "go"
            have e3 : Dt.isNum (.tup [.int n, .int m]) = decide (V.int (Int.gcd n m : Nat) = V.int 1) := by
              show (decide (0 < m) && decide (Int.gcd n m = 1)) = _
              rw [decide_eq_true c, Bool.true_and]
              by_cases z : Int.gcd n m = 1
              · rw [decide_eq_true z, z]
                rfl
              · rw [decide_eq_false z, decide_eq_false (fun y => z (by have := V.int.inj y; omega))]
            rw [e3] at k
            exact k
          · walk_at "go"
            have e3 : Dt.isNum (.tup [.int n, .int m]) = false := by
              show (decide (0 < m) && decide (Int.gcd n m = 1)) = _
              rw [decide_eq_false c, Bool.false_and]
            rw [e3] at k
            exact k
    | _ => walk_at "go"; exact k
theorem ok_reduced (F : Fun K "reduced" "reduced" s_reduced f fd) (T : Blt mg) (hg : mg "gcd" = some (.builtin "math.gcd")) : FnOk P w K mg base CX0 1 f fd ["n", "d"] spReduced := by
  refine F.ok sc_reduced (fun vs H Q E h => ?_) (fun cdv A outer s H vs Q E hr h => ?_)
  · obtain ⟨x, q, rfl, _⟩ := h
    rfl
  · obtain ⟨n, d, rfl, hd, sd, k⟩ := h
    refine ⟨_, (pss_cons (ps_if (pt_cmpR op_lt (pv 1) pe_int (nomark _))
      (pss_one (ps_par (i := 0) (j := 1) rfl sc_reduced.nd rfl rfl (by decide) rfl rfl (pa_cons (pe_un un_neg (pv 0)) (pa_cons (pe_un un_neg (pv 1)) pa_nil)) rfl)) pss_nil)
      (pss_cons (ps_set (i := 2) sc_reduced.nd rfl (.inl rfl) (pe_callBfun cr_gcd (by rfl) hg (pa_cons (pv 0) (pa_cons (pv 1) pa_nil))))
      (pss_cons (ps_if (pt_cmpR op_eq (pv 2) pe_int (nomark _))
      (pss_one (ps_ret (pe_tup (pa_cons (pv 0) (pa_cons (pv 1) pa_nil))))) pss_nil)
      (pss_one (ps_ret (pe_tup (pa_cons (pe_op op_fdivW (pv 0) (pv 2)) (pa_cons (pe_op op_fdivW (pv 1) (pv 2)) pa_nil)))))))), ?_⟩
    have sg : ∀ {m e : Int}, e.natAbs < 2 ^ 8900 → e ≠ 0 → CDivW m (Int.gcd n e : Nat) ∧ CDivW m (Int.gcd (-n) e : Nat) := fun he h0 =>
      ⟨wide_div (gcd_pos h0) (Nat.lt_of_le_of_lt (gcd_le h0) he) (by decide) (by decide), wide_div (gcd_pos h0) (Nat.lt_of_le_of_lt (gcd_le h0) he) (by decide) (by decide)⟩
    by_cases c : d < 0
    · have er : red n d = low (-n) (-d) := by
        unfold red
        rw [if_pos c]
      rw [er] at k
      by_cases z : Int.gcd (-n) (-d) = 1
      · have z' : V.int (Int.gcd (-n) (-d) : Nat) = V.int 1 := by rw [z]; rfl
        walk_at "go"
        refine k _ _ ?_ ?_
        · walk_at "hpS"
        · rw [low_one z]
          walk_at "hpH"
      · have z' : ¬ V.int (Int.gcd (-n) (-d) : Nat) = V.int 1 := fun y => z (by have := V.int.inj y; omega)
        walk_at "go"
        all_goals first
          | exact (sg (by rw [Int.natAbs_neg]; exact sd) (by omega)).2
          | skip
        refine k _ _ ?_ ?_
        · walk_at "hpS"
        · exact upd_same
    · have er : red n d = low n d := by
        unfold red
        rw [if_neg c]
      rw [er] at k
      by_cases z : Int.gcd n d = 1
      · have z' : V.int (Int.gcd n d : Nat) = V.int 1 := by rw [z]; rfl
        walk_at "go"
        refine k _ _ ?_ ?_
        · walk_at "hpS"
        · rw [low_one z]
          walk_at "hpH"
      · have z' : ¬ V.int (Int.gcd n d : Nat) = V.int 1 := fun y => z (by have := V.int.inj y; omega)
        walk_at "go"
        all_goals first
          | exact (sg sd hd).1
          | skip
        refine k _ _ ?_ ?_
        · walk_at "hpS"
        · exact upd_same
theorem ok_plus (F : Fun K "plus" "plus" s_plus f fd) (T : Blt mg) (D_pair : Df P w K mg base 1 "pair" f1 ["a"] spPair) (D_reduced : Df P w K mg base 1 "reduced" f2 ["n", "d"] spReduced) : FnOk P w K mg base CX0 2 f fd ["a", "b"] (spOp add) := by
  obtain ⟨_, G_pair, B_pair⟩ := D_pair.ok
  obtain ⟨_, G_reduced, B_reduced⟩ := D_reduced.ok
  refine F.ok sc_plus (fun vs H Q E h => ?_) (fun cdv A outer s H vs Q E hr h => ?_)
  · obtain ⟨x, y, p, q, rfl, _⟩ := h
    rfl
  · obtain ⟨x, y, p, q, rfl, hx, hy, lp, lq, ⟨sp1, sp2⟩, ⟨sq1, sq2⟩, k⟩ := h
    refine ⟨_, (pss_cons (ps_par (i := 0) (j := 1) rfl sc_plus.nd rfl rfl (by decide) rfl rfl (pa_cons (pe_call G_pair (hr.mono (by decide)) (by rfl) D_pair.g D_pair.kp B_pair .nil pass0 (pa_cons (pv 0) pa_nil)) (pa_cons (pe_call G_pair (hr.mono (by decide)) (by rfl) D_pair.g D_pair.kp B_pair .nil pass0 (pa_cons (pv 1) pa_nil)) pa_nil)) rfl)
      (pss_cons (ps_if (PW.pt (pw_and (pt_cmpR op_eq (pe_ix (ix_seqK K) (pv 0) pe_int (fun _ _ => rfl)) pe_int (nomark _)) (pw_and1 (pt_cmpR op_eq (pe_ix (ix_seqK K) (pv 1) pe_int (fun _ _ => rfl)) pe_int (nomark _)))))
      (pss_one (ps_ret (pe_tup (pa_cons (pe_op op_add (pe_ix (ix_seqK K) (pv 0) pe_int (fun _ _ => rfl)) (pe_ix (ix_seqK K) (pv 1) pe_int (fun _ _ => rfl))) (pa_cons pe_int pa_nil))))) pss_nil)
      (pss_one (ps_ret (pe_call G_reduced (hr.mono (by decide)) (by rfl) D_reduced.g D_reduced.kp B_reduced .nil pass0 (pa_cons (pe_op op_add (pe_op op_mulW (pe_ix (ix_seqK K) (pv 0) pe_int (fun _ _ => rfl)) (pe_ix (ix_seqK K) (pv 1) pe_int (fun _ _ => rfl))) (pe_op op_mulW (pe_ix (ix_seqK K) (pv 1) pe_int (fun _ _ => rfl)) (pe_ix (ix_seqK K) (pv 0) pe_int (fun _ _ => rfl)))) (pa_cons (pe_op op_mulW (pe_ix (ix_seqK K) (pv 0) pe_int (fun _ _ => rfl)) (pe_ix (ix_seqK K) (pv 1) pe_int (fun _ _ => rfl))) pa_nil))))))), ?_⟩
    by_cases c1 : p.2 = 1
    · by_cases c2 : q.2 = 1
      · have c1' : V.int p.2 = V.int 1 := by rw [c1]
        have c2' : V.int q.2 = V.int 1 := by rw [c2]
        walk_at "go"
        refine k _ _ ?_ ?_
        · walk_at "hpS"
        · have e : add p q = (p.1 + q.1, 1) := by
            obtain ⟨a, b⟩ := p
            obtain ⟨c, d⟩ := q
            cases c1
            cases c2
            exact add_int a c
          rw [e]
          walk_at "hpH"
      · have c1' : V.int p.2 = V.int 1 := by rw [c1]
        have c2' : ¬ V.int q.2 = V.int 1 := fun z => c2 (V.int.inj z)
        walk_at "go"
        all_goals first
          | exact sz_mul (by assumption) (by assumption)
          | exact Int.ne_of_gt (mul_pos' lp.1 lq.1)
          | exact sz_mulD (by assumption) (by assumption)
          | skip
        rename_i Hl sl hl
        refine k _ _ ?_ ?_
        · walk_at "hpS"
        · rw [red_pos (mul_pos' lp.1 lq.1)] at hl
          exact hl
    · have c1' : ¬ V.int p.2 = V.int 1 := fun z => c1 (V.int.inj z)
      walk_at "go"
      all_goals first
        | exact sz_mul (by assumption) (by assumption)
        | exact Int.ne_of_gt (mul_pos' lp.1 lq.1)
        | exact sz_mulD (by assumption) (by assumption)
        | skip
      rename_i Hl sl hl
      refine k _ _ ?_ ?_
      · walk_at "hpS"
      · rw [red_pos (mul_pos' lp.1 lq.1)] at hl
        exact hl
theorem ok_minus (F : Fun K "minus" "minus" s_minus f fd) (T : Blt mg) (D_pair : Df P w K mg base 1 "pair" f1 ["a"] spPair) (D_reduced : Df P w K mg base 1 "reduced" f2 ["n", "d"] spReduced) : FnOk P w K mg base CX0 2 f fd ["a", "b"] (spOp sub) := by
  obtain ⟨_, G_pair, B_pair⟩ := D_pair.ok
  obtain ⟨_, G_reduced, B_reduced⟩ := D_reduced.ok
  refine F.ok sc_minus (fun vs H Q E h => ?_) (fun cdv A outer s H vs Q E hr h => ?_)
  · obtain ⟨x, y, p, q, rfl, _⟩ := h
    rfl
  · obtain ⟨x, y, p, q, rfl, hx, hy, lp, lq, ⟨sp1, sp2⟩, ⟨sq1, sq2⟩, k⟩ := h
    refine ⟨_, (pss_cons (ps_par (i := 0) (j := 1) rfl sc_minus.nd rfl rfl (by decide) rfl rfl (pa_cons (pe_call G_pair (hr.mono (by decide)) (by rfl) D_pair.g D_pair.kp B_pair .nil pass0 (pa_cons (pv 0) pa_nil)) (pa_cons (pe_call G_pair (hr.mono (by decide)) (by rfl) D_pair.g D_pair.kp B_pair .nil pass0 (pa_cons (pv 1) pa_nil)) pa_nil)) rfl)
      (pss_cons (ps_if (PW.pt (pw_and (pt_cmpR op_eq (pe_ix (ix_seqK K) (pv 0) pe_int (fun _ _ => rfl)) pe_int (nomark _)) (pw_and1 (pt_cmpR op_eq (pe_ix (ix_seqK K) (pv 1) pe_int (fun _ _ => rfl)) pe_int (nomark _)))))
      (pss_one (ps_ret (pe_tup (pa_cons (pe_op op_sub (pe_ix (ix_seqK K) (pv 0) pe_int (fun _ _ => rfl)) (pe_ix (ix_seqK K) (pv 1) pe_int (fun _ _ => rfl))) (pa_cons pe_int pa_nil))))) pss_nil)
      (pss_one (ps_ret (pe_call G_reduced (hr.mono (by decide)) (by rfl) D_reduced.g D_reduced.kp B_reduced .nil pass0 (pa_cons (pe_op op_sub (pe_op op_mulW (pe_ix (ix_seqK K) (pv 0) pe_int (fun _ _ => rfl)) (pe_ix (ix_seqK K) (pv 1) pe_int (fun _ _ => rfl))) (pe_op op_mulW (pe_ix (ix_seqK K) (pv 1) pe_int (fun _ _ => rfl)) (pe_ix (ix_seqK K) (pv 0) pe_int (fun _ _ => rfl)))) (pa_cons (pe_op op_mulW (pe_ix (ix_seqK K) (pv 0) pe_int (fun _ _ => rfl)) (pe_ix (ix_seqK K) (pv 1) pe_int (fun _ _ => rfl))) pa_nil))))))), ?_⟩
    by_cases c1 : p.2 = 1
    · by_cases c2 : q.2 = 1
      · have c1' : V.int p.2 = V.int 1 := by rw [c1]
        have c2' : V.int q.2 = V.int 1 := by rw [c2]
        walk_at "go"
        refine k _ _ ?_ ?_
        · walk_at "hpS"
        · have e : sub p q = (p.1 - q.1, 1) := by
            obtain ⟨a, b⟩ := p
            obtain ⟨c, d⟩ := q
            cases c1
            cases c2
            exact sub_int a c
          rw [e]
          walk_at "hpH"
      · have c1' : V.int p.2 = V.int 1 := by rw [c1]
        have c2' : ¬ V.int q.2 = V.int 1 := fun z => c2 (V.int.inj z)
        walk_at "go"
        all_goals first
          | exact sz_mul (by assumption) (by assumption)
          | exact Int.ne_of_gt (mul_pos' lp.1 lq.1)
          | exact sz_mulD (by assumption) (by assumption)
          | skip
        rename_i Hl sl hl
        refine k _ _ ?_ ?_
        · walk_at "hpS"
        · rw [red_pos (mul_pos' lp.1 lq.1)] at hl
          exact hl
    · have c1' : ¬ V.int p.2 = V.int 1 := fun z => c1 (V.int.inj z)
      walk_at "go"
      all_goals first
        | exact sz_mul (by assumption) (by assumption)
        | exact Int.ne_of_gt (mul_pos' lp.1 lq.1)
        | exact sz_mulD (by assumption) (by assumption)
        | skip
      rename_i Hl sl hl
      refine k _ _ ?_ ?_
      · walk_at "hpS"
      · rw [red_pos (mul_pos' lp.1 lq.1)] at hl
        exact hl
theorem ok_times (F : Fun K "times" "times" s_times f fd) (T : Blt mg) (D_pair : Df P w K mg base 1 "pair" f1 ["a"] spPair) (D_reduced : Df P w K mg base 1 "reduced" f2 ["n", "d"] spReduced) : FnOk P w K mg base CX0 2 f fd ["a", "b"] (spOp mul) := by
  obtain ⟨_, G_pair, B_pair⟩ := D_pair.ok
  obtain ⟨_, G_reduced, B_reduced⟩ := D_reduced.ok
  refine F.ok sc_times (fun vs H Q E h => ?_) (fun cdv A outer s H vs Q E hr h => ?_)
  · obtain ⟨x, y, p, q, rfl, _⟩ := h
    rfl
  · obtain ⟨x, y, p, q, rfl, hx, hy, lp, lq, ⟨sp1, sp2⟩, ⟨sq1, sq2⟩, k⟩ := h
    refine ⟨_, (pss_cons (ps_par (i := 0) (j := 1) rfl sc_times.nd rfl rfl (by decide) rfl rfl (pa_cons (pe_call G_pair (hr.mono (by decide)) (by rfl) D_pair.g D_pair.kp B_pair .nil pass0 (pa_cons (pv 0) pa_nil)) (pa_cons (pe_call G_pair (hr.mono (by decide)) (by rfl) D_pair.g D_pair.kp B_pair .nil pass0 (pa_cons (pv 1) pa_nil)) pa_nil)) rfl)
      (pss_one (ps_ret (pe_call G_reduced (hr.mono (by decide)) (by rfl) D_reduced.g D_reduced.kp B_reduced .nil pass0 (pa_cons (pe_op op_mulW (pe_ix (ix_seqK K) (pv 0) pe_int (fun _ _ => rfl)) (pe_ix (ix_seqK K) (pv 1) pe_int (fun _ _ => rfl))) (pa_cons (pe_op op_mulW (pe_ix (ix_seqK K) (pv 0) pe_int (fun _ _ => rfl)) (pe_ix (ix_seqK K) (pv 1) pe_int (fun _ _ => rfl))) pa_nil)))))), ?_⟩
    walk_at "go"
    all_goals first
      | exact sz_mul (by assumption) (by assumption)
      | exact Int.ne_of_gt (mul_pos' lp.1 lq.1)
      | exact sz_mulD (by assumption) (by assumption)
      | skip
    rename_i Hl sl hl
    refine k _ _ ?_ ?_
    · walk_at "hpS"
    · rw [red_pos (mul_pos' lp.1 lq.1)] at hl
      exact hl
theorem ok_below (F : Fun K "below" "below" s_below f fd) (T : Blt mg) : FnOk P w K mg base CX0 1 f fd ["a", "b"] spBelow := by
  refine F.ok sc_below (fun vs H Q E h => ?_) (fun cdv A outer s H vs Q E hr h => ?_)
  · obtain ⟨x, y, p, q, rfl, _⟩ := h
    rfl
  · obtain ⟨x, y, p, q, rfl, ⟨a, rfl, ha⟩, ⟨b, rfl, hb⟩, ⟨sp1, sp2⟩, ⟨sq1, sq2⟩, k⟩ := h
    refine ⟨_, (pss_one (ps_ret (pe_cmpR op_lt (pe_op op_mulW (pe_ix (ix_seqK K) (pv 0) pe_int (fun _ _ => rfl)) (pe_ix (ix_seqK K) (pv 1) pe_int (fun _ _ => rfl))) (pe_op op_mulW (pe_ix (ix_seqK K) (pv 1) pe_int (fun _ _ => rfl)) (pe_ix (ix_seqK K) (pv 0) pe_int (fun _ _ => rfl))) (nomark _)))), ?_⟩
    walk_at "go"
    all_goals first
      | exact sz_mul (by assumption) (by assumption)
      | skip
    exact k
theorem ok_compare (F : Fun K "compare" "compare" s_compare f fd) (T : Blt mg) (D_pair : Df P w K mg base 1 "pair" f1 ["a"] spPair) (D_below : Df P w K mg base 1 "below" f2 ["a", "b"] spBelow) : FnOk P w K mg base CX0 2 f fd ["a", "b"] spCompare := by
  obtain ⟨_, G_pair, B_pair⟩ := D_pair.ok
  obtain ⟨_, G_below, B_below⟩ := D_below.ok
  refine F.ok sc_compare (fun vs H Q E h => ?_) (fun cdv A outer s H vs Q E hr h => ?_)
  · obtain ⟨x, y, p, q, rfl, _⟩ := h
    rfl
  · obtain ⟨x, y, p, q, rfl, hx, hy, sp, sq, k⟩ := h
    refine ⟨_, (pss_cons (ps_par (i := 0) (j := 1) rfl sc_compare.nd rfl rfl (by decide) rfl rfl (pa_cons (pe_call G_pair (hr.mono (by decide)) (by rfl) D_pair.g D_pair.kp B_pair .nil pass0 (pa_cons (pv 0) pa_nil)) (pa_cons (pe_call G_pair (hr.mono (by decide)) (by rfl) D_pair.g D_pair.kp B_pair .nil pass0 (pa_cons (pv 1) pa_nil)) pa_nil)) rfl)
      (pss_cons (ps_if (pt_val (pe_call G_below (hr.mono (by decide)) (by rfl) D_below.g D_below.kp B_below .nil pass0 (pa_cons (pv 0) (pa_cons (pv 1) pa_nil))))
      (pss_one (ps_ret (pe_un un_neg pe_int))) pss_nil)
      (pss_one (ps_ret (pe_ifExp (pt_val (pe_call G_below (hr.mono (by decide)) (by rfl) D_below.g D_below.kp B_below .nil pass0 (pa_cons (pv 1) (pa_cons (pv 0) pa_nil)))) pe_int pe_int))))), ?_⟩
    cases c1 : under p q with
    | true =>
      walk_at "go"
      have z := k _ (Same.trans (by assumption) (by assumption))
      rw [if_pos c1] at z
      exact z
    | false =>
      cases c2 : under q p with
      | true =>
        walk_at "go"
        have z := k _ (Same.trans (by assumption) (by assumption))
        rw [if_neg (by rw [c1]; decide), if_pos c2] at z
        exact z
      | false =>
        walk_at "go"
        have z := k _ (Same.trans (by assumption) (by assumption))
        rw [if_neg (by rw [c1]; decide), if_neg (by rw [c2]; decide)] at z
        exact z
end
end Ko


namespace Ko
open PySem L2 PySem.Spec PyProof.Rows Xm
def Dt.isCorner : Dt → Bool
  | .tup ds => decide (ds.length = 3) && ds.all Dt.isNum
  | _ => false
def Dt.inb (m : Int) : Dt → Bool
  | .int i => decide (0 ≤ i) && decide (i < m)
  | _ => false
def Dt.isFace (m : Int) : Dt → Bool
  | .tup ds => decide (ds.length = 3) && ds.all (Dt.inb m)
  | _ => false
theorem isCorner_tup (ds : List Dt) : Dt.isCorner (.tup ds) = (decide (ds.length = 3) && ds.all Dt.isNum) := rfl
theorem isFace_tup (m : Int) (ds : List Dt) : Dt.isFace m (.tup ds) = (decide (ds.length = 3) && ds.all (Dt.inb m)) := rfl
def spCorner : Sp := fun vs H Q _ => ∃ v d, vs = [v] ∧ Dq H v d ∧ ∀ H', Same H H' → Q (.bl d.isCorner) H'
def spFace : Sp := fun vs H Q _ => ∃ v d m, vs = [v, .int m] ∧ Dq H v d ∧ ∀ H', Same H H' → Q (.bl (d.isFace m)) H'
section
variable {K : Fg} {H : Hp} {Q : VK} {E : XK} {v : V} {d : Dt}
theorem sp_corner (h : Dq H v d) (k : ∀ H', Same H H' → Q (.bl d.isCorner) H') : spCorner [v] H Q E := ⟨v, d, rfl, h, k⟩
theorem sp_face {m : Int} (h : Dq H v d) (k : ∀ H', Same H H' → Q (.bl (d.isFace m)) H') : spFace [v, .int m] H Q E := ⟨v, d, m, rfl, h, k⟩
end
theorem g_blE {A B : Prop} {b : Bool} (q : if b = true then A else B) : ∃ c, V.bl b = .bl c ∧ if c = true then A else B := ⟨b, rfl, q⟩
theorem map_range {xs : List V} {ds : List Dt} (f : Dt → Bool) (h : xs.length = ds.length) : (List.range xs.length).map (fun k => V.bl ((ds[k]?.map f).getD false)) = (ds.map f).map V.bl := by
  rw [h]
  have e := range_map f ds false
  rw [← e, List.map_map]
  rfl

local macro_rules | `(tactic| walk_at "hpS") => `(tactic| with_reducible first
  | exact Same.refl _
  | assumption
  | (refine' Same.trans ?hq (same_new (by assumption)); (case hq => walk_at "hpS"))
  | (refine' Same.trans ?hq (by assumption); (case hq => walk_at "hpS"))
  | fail)
local macro_rules | `(tactic| walk_at "hpH") => `(tactic| with_reducible first
  | assumption
  | exact upd_same
  | (refine' same_at (same_new (by assumption)) ?hq; (case hq => walk_at "hpH"))
  | (refine' same_at (by assumption) ?hq; (case hq => walk_at "hpH"))
  | fail)
local macro_rules | `(tactic| walk_at "hpTo") => `(tactic| with_reducible first
  | assumption
  | (refine' sq_t (same_new (by assumption)) ?hq; (case hq => walk_at "hpTo"))
  | (refine' sq_t (by assumption) ?hq; (case hq => walk_at "hpTo"))
  | fail)
local macro_rules | `(tactic| walk_at "hpT") => `(tactic| with_reducible first
  | (refine' SqT.of ?hq; (case hq => walk_at "hpH"))
  | walk_at "hpTo"
  | fail)
local macro_rules | `(tactic| walk_at "hpLo") => `(tactic| with_reducible first
  | assumption
  | (refine' sq_l (same_new (by assumption)) ?hq; (case hq => walk_at "hpLo"))
  | (refine' sq_l (by assumption) ?hq; (case hq => walk_at "hpLo"))
  | fail)
local macro_rules | `(tactic| walk_at "hpL") => `(tactic| with_reducible first
  | (refine' SqL.of ?hq; (case hq => walk_at "hpH"))
  | walk_at "hpLo"
  | fail)
local macro_rules | `(tactic| walk_at "kit") => `(tactic| with_reducible first
  | exact kit_int_bool | exact kit_int_int | exact kit_int_tuple | exact kit_int_list | exact kit_int_str
  | exact kit_tuple_tuple | exact kit_tuple_int | exact kit_tuple_bool | exact kit_tuple_list | exact kit_tuple_str
  | exact kit_bool_bool | exact kit_bool_int | exact kit_bool_tuple | exact kit_bool_list | exact kit_bool_str
  | exact kit_str_str | exact kit_str_int | exact kit_str_bool | exact kit_str_tuple | exact kit_str_list
  | exact kit_NoneType_int | exact kit_NoneType_bool | exact kit_NoneType_tuple | exact kit_NoneType_list | exact kit_NoneType_str
  | exact kit_list_list | exact kit_list_tuple | exact kit_list_int | exact kit_list_bool | exact kit_list_str
  | fail)
local macro_rules | `(tactic| walk_at "call") => `(tactic| fail)
local macro_rules | `(tactic| walk_at "s0") => `(tactic| with_reducible first
  | refine g_seq ?_ | refine g_asg ?_ | refine g_name ?_ | refine g_ifS ?_ | refine g_ret ?_ | refine g_retN ?_ | refine g_next ?_
  | refine g_par ?_ | refine g_parE ?_ | refine g_drop ?_
  | refine g_c ?_ | refine g_op ?_ | refine g_un ?_ | refine g_cb ?_ | refine g_call ?_ | refine g_nil ?_ | refine g_cons ?_ | refine g_tup ?_ | refine g_lst ?_
  | refine g_test ?_ | refine g_B ?_ | refine g_blF ?_ | refine g_and ?_ | refine g_or ?_ | refine g_not ?_ | refine g_andV ?_ | refine g_orV ?_ | refine g_notV ?_ | refine g_if ?_
  | refine iteT ?_ | refine iteF ?_
  | refine g_chain ?_ | refine g_sl ?_ | refine g_noPart ?_ | refine g_part ?_ | refine g_partI ?_ | refine g_slS ?_ ?side | refine g_M1 ?_ | refine g_M1s ?_ | refine g_starts ?_ | refine g_bm ?_ | refine g_bm0 ?_ | refine g_tyS ?_
  | refine g_Fs ?_ | refine g_JsN ?_ | refine g_JsC ?_ | refine g_JsE ?_ ?side | refine g_fmt ?_ | refine g_fmtI ?_ ?side | refine g_fmtS ?_ ?side | refine g_iList ?_ | refine g_iTup ?_ | refine g_iStr ?_ | refine g_iStrE ?_ | refine g_iRng1 ?_ | refine g_iRng1E ?_ ?side1 ?side2 | refine g_yes ?_ | refine g_ckw ?_ | refine g_dget ?_ | refine g_dictZip ?_ | refine g_gCons ?_ | refine g_gNil ?_ | refine g_revL ?_ | refine g_for ?_ | refine g_lc ?_ | refine g_addS ?_ ?side | refine g_str ?_ ?side | refine g_lenS ?_ ?side
  | refine g_rI0 ?_ | refine g_rI ?_ ?side | refine g_rU ?_ | refine g_abs ?_ | refine g_int ?_ | refine g_intB ?_ | refine g_gcd ?_ | refine g_inS ?_ | refine g_isN0 ?_ | refine g_notN0 ?_
  | fail)
local macro_rules | `(tactic| walk_at "s1") => `(tactic| first
  | ((with_reducible refine' g_var ?h ?_); (case h => exact rfl))
  | ((with_reducible refine' g_new ?h ?_); (case h => exact (by simp only [List.length_cons, List.length_nil]; decide)); intro tnew htnew)
  | ((with_reducible refine' iteDT ?h ?_); (case h => first | exact rfl | assumption))
  | ((with_reducible refine' iteNT ?h ?_); (case h => first | exact rfl | assumption))
  | ((with_reducible refine' iteDF ?h ?_); (case h => first | assumption | (intro z; cases z)))
  | ((with_reducible refine' iteNF ?h ?_); (case h => first | assumption | (intro z; cases z)))
  | ((with_reducible refine' g_eq ?_ ?h); (case h => exact rfl))
  | ((with_reducible refine' g_ne ?_ ?h); (case h => exact rfl))
  | ((with_reducible refine' g_ixT ?_ ?h ?e); (case h => walk_at "hpT"); (case e => first | exact rfl | exact atI_0 | exact atI_1))
  | ((with_reducible refine' g_ixL ?_ ?h ?e); (case h => walk_at "hpL"); (case e => first | exact rfl | exact atI_0 | exact atI_1))
  | ((with_reducible refine' g_isi_int ?_ ?h); (case h => walk_at "kit"))
  | ((with_reducible refine' g_isi_str ?_ ?h); (case h => walk_at "kit"))
  | ((with_reducible refine' g_isi_bl ?_ ?h); (case h => walk_at "kit"))
  | ((with_reducible refine' g_isi_non ?_ ?h); (case h => walk_at "kit"))
  | ((with_reducible refine' g_isi_t ?_ ?t ?h); (case t => walk_at "hpT"); (case h => walk_at "kit"))
  | ((with_reducible refine' g_isi_l ?_ ?t ?h ?l); (case l => walk_at "hpH"); (case t => walk_at "hpL"); (case h => walk_at "kit"))
  | ((with_reducible refine' g_lenT ?_ ?h); (case h => walk_at "hpT"))
  | ((with_reducible refine' g_lenL ?_ ?h); (case h => walk_at "hpL"))
  | ((with_reducible refine' g_split ?_ ?h ?side); (case h => exact rfl); intro pnew hpnew)
  | ((with_reducible refine' g_slL ?h ?_); (case h => walk_at "hpL"); intro pnew hpnew)
  | ((with_reducible refine' g_iListE ?_ ?h); (case h => walk_at "hpL"))
  | ((with_reducible refine' g_iTupE ?_ ?h); (case h => walk_at "hpT"))
  | ((with_reducible refine' g_tyL ?_ ?h); (case h => walk_at "hpL"))
  | ((with_reducible refine' g_join ?_ ?h ?side); (case h => walk_at "hpL"))
  | ((with_reducible refine' g_append ?_ ?h ?side); (case h => walk_at "hpH"))
  | ((with_reducible refine' g_all ?_ ?h); (case h => walk_at "hpL"))
  | ((with_reducible refine' g_gTup ?_ ?h ?n); (case h => walk_at "hpT"); (case n => exact rfl))
  | ((with_reducible refine' g_revLE ?h ?_); (case h => walk_at "hpL"); intro pnew hpnew)
  | ((with_reducible refine' g_isN1 ?_ ?h); (case h => first | assumption | (intro z; cases z)))
  | ((with_reducible refine' g_notN1 ?_ ?h); (case h => first | assumption | (intro z; cases z)))
  | walk_at "call"
  | ((with_reducible refine' iteBT ?h ?_); (case h => first | assumption | exact rfl))
  | ((with_reducible refine' iteBF ?h ?_); (case h => first | assumption | exact rfl))
  | fail)
local macro_rules | `(tactic| walk_at "nrm") => `(tactic| simp only [Bool.not_true, Bool.not_false, decide_eq_true_eq, decide_true, decide_false, Bool.true_and, Bool.false_and, Bool.and_true, Bool.and_false, V.int.injEq, V.bl.injEq, V.str.injEq, List.length_cons, List.length_nil, Bool.not_eq_true', decide_eq_false_iff_not, Int.not_lt, Int.not_le, reduceCtorEq, not_false_eq_true, not_true_eq_false, Decidable.not_not] at *)
local macro_rules | `(tactic| walk_at "sp") => `(tactic| ((with_reducible refine ite2 (fun c => ?_) (fun c => ?_)) <;> (try simp only [decide_eq_true_eq, Bool.not_eq_true', decide_eq_false_iff_not, V.int.injEq, V.bl.injEq, V.str.injEq, Int.not_lt, Int.not_le, reduceCtorEq, Decidable.not_not, Bool.false_eq_true, Bool.true_eq_false] at c) <;> (try (exfalso; omega))))
local macro_rules | `(tactic| walk_at "s") => `(tactic| first | walk_at "s0" | walk_at "s1" | fail)
local macro_rules | `(tactic| walk_at "go") => `(tactic| (try dsimp only [cxK, cxK']); repeat' walk_at "s")
local macro_rules | `(tactic| walk_at "gos") => `(tactic| ((try dsimp only [cxK, cxK']); repeat' (first | walk_at "s" | walk_at "sp" | fail)))

local macro_rules | `(tactic| walk_at "hpNo") => `(tactic| with_reducible first
  | assumption
  | (refine' Nm.ofPr ?hq; (case hq => assumption))
  | (refine' Nm.same (same_new (by assumption)) ?hq; (case hq => walk_at "hpNo"))
  | (refine' Nm.same (by assumption) ?hq; (case hq => walk_at "hpNo"))
  | fail)
local macro_rules | `(tactic| walk_at "hpN") => `(tactic| with_reducible first
  | walk_at "hpNo"
  | (refine' Nm.of ?hq; (case hq => walk_at "hpH"))
  | fail)
local macro_rules | `(tactic| walk_at "hpPo") => `(tactic| with_reducible first
  | assumption
  | (refine' Pr.same (same_new (by assumption)) ?hq; (case hq => walk_at "hpPo"))
  | (refine' Pr.same (by assumption) ?hq; (case hq => walk_at "hpPo"))
  | fail)
local macro_rules | `(tactic| walk_at "hpP") => `(tactic| with_reducible first
  | walk_at "hpPo"
  | (refine' Pr.of ?hq; (case hq => walk_at "hpH"))
  | fail)
local macro_rules | `(tactic| walk_at "hpDo") => `(tactic| with_reducible first
  | assumption
  | exact Dq.int _ | exact Dq.bl _ | exact Dq.str _ | exact Dq.non
  | (refine' Dq.same (same_new (by assumption)) ?hq; (case hq => walk_at "hpDo"))
  | (refine' Dq.same (by assumption) ?hq; (case hq => walk_at "hpDo"))
  | fail)
local macro_rules | `(tactic| walk_at "hpD") => `(tactic| with_reducible first
  | walk_at "hpDo"
  | fail)

local macro_rules | `(tactic| walk_at "call") => `(tactic| first
  | ((with_reducible refine' sp_whole ?h ?_); (case h => walk_at "hpD"))
  | ((with_reducible refine' sp_num ?h ?_); (case h => walk_at "hpD"))
  | fail)
section
variable {P : Program} {w : World} {K : Fg} {mg : Str → Option Value} {base : Heap} {f f1 f2 f3 : Addr} {fd : FuncData}
theorem ok_is_corner (F : Fun K "is_corner" "is_corner" s_is_corner f fd) (T : Blt mg) (D_is_number : Df P w K mg base 3 "is_number" f1 ["value"] spNum) : FnOk P w K mg base CX0 4 f fd ["value"] spCorner := by
  obtain ⟨_, G_is_number, B_is_number⟩ := D_is_number.ok
  refine F.ok sc_is_corner (fun vs H Q E h => ?_) (fun cdv A outer s H vs Q E hr h => ?_)
  · obtain ⟨v, d, rfl, _⟩ := h
    rfl
  · obtain ⟨v, d, rfl, hv, k⟩ := h
    refine ⟨_, (pss_one (ps_ret (pe_and (pe_callB (cg_isiK K) (by rfl) T.n_isinstance (by decide +kernel) (pa_cons (pv 0) (pa_cons (pe_bltn (v := .ty "tuple") (by rfl) T.n_tuple (by decide +kernel) rfl) pa_nil))) (pe_and (pe_cmpR op_eq (pe_callB (cg_lenK K) (by rfl) T.n_len (by decide +kernel) (pa_cons (pv 0) pa_nil)) pe_int (nomark _)) (pe_one (pe_callB (cr_allK K rfl) (by rfl) T.n_all (by decide +kernel) (pa_cons (pe_lc (own := [("item", 1)]) (g := gName 1) (tt := tYes) rfl sc_is_corner.nd (pi_tup (pv 0)) (blkOk_by (N := ["value", "item"]) (sc := defScope s_is_corner) (by decide +kernel)) (fun _ _ _ _ _ => pg_name (i := 1) sc_is_corner.nd rfl (.inl rfl)) (fun _ _ _ _ _ => pts_nil) (fun _ _ _ _ _ => (pe_call G_is_number (hr.mono (by decide)) (by rfl) D_is_number.g D_is_number.kp B_is_number .nil pass0 (pa_cons (pv 1) pa_nil)))) pa_nil))))))), ?_⟩
    have hv' := hv
    cases hv with
    | @tup a xs ds ha hd =>
      have l1 := hd.length
      by_cases c : ds.length = 3
      · have c1 : V.int (xs.length : Int) = V.int 3 := by rw [l1, c]; rfl
        walk_at "go"
        intro D hD
        refine lcV (walk_tup (K := K) (a := a) (xs := xs)) hD (fun i => .bl ((ds[i]?.map Dt.isNum).getD false)) (by omega) (fun H2 s => SqT.of (s _ _ ha)) (fun i y H2 H2' hi s y' Kt kt => ?_) (fun H' s hH => ?_) gm_name
        · obtain ⟨rfl, hy⟩ := y'
          refine g_wipe rfl ?_
          obtain ⟨dd, hdd, hq⟩ := DqAll.at hd hy
          have hq := hq.same s
          rw [hdd] at kt
          walk_at "go"
          exact kt _ (Same.refl _)
        · walk_at "go"
          refine g_all (bs := ds.map Dt.isNum) ?_ (SqL.of (by rw [hH, map_range _ l1]))
          have e : Dt.isCorner (.tup ds) = (ds.map Dt.isNum).all id := by
            rw [isCorner_tup, decide_eq_true c, Bool.true_and, List.all_map]
            rfl
          rw [e] at k
          exact k _ s
      · have c1 : ¬ V.int (xs.length : Int) = V.int 3 := fun z => c (by have := V.int.inj z; omega)
        have e : Dt.isCorner (.tup ds) = false := by
          rw [isCorner_tup, decide_eq_false c, Bool.false_and]
        rw [e] at k
        walk_at "go"
        exact k _ (Same.refl _)
    | _ => walk_at "go"; exact k _ (Same.refl _)
theorem ok_is_face (F : Fun K "is_face" "is_face" s_is_face f fd) (T : Blt mg) (D_is_whole : Df P w K mg base 1 "is_whole" f1 ["value"] spWhole) : FnOk P w K mg base CX0 4 f fd ["value", "many"] spFace := by
  obtain ⟨_, G_is_whole, B_is_whole⟩ := D_is_whole.ok
  refine F.ok sc_is_face (fun vs H Q E h => ?_) (fun cdv A outer s H vs Q E hr h => ?_)
  · obtain ⟨v, d, m, rfl, _⟩ := h
    rfl
  · obtain ⟨v, d, m, rfl, hv, k⟩ := h
    refine ⟨_, (pss_cons (ps_if (PW.pt (pw_or (pt_not (pt_val (pe_callB (cg_isiK K) (by rfl) T.n_isinstance (by decide +kernel) (pa_cons (pv 0) (pa_cons (pe_bltn (v := .ty "tuple") (by rfl) T.n_tuple (by decide +kernel) rfl) pa_nil))))) (pw_or1 (pt_cmpR op_ne (pe_callB (cg_lenK K) (by rfl) T.n_len (by decide +kernel) (pa_cons (pv 0) pa_nil)) pe_int (nomark _)))))
      (pss_one (ps_ret pe_bl)) pss_nil)
      (pss_one (ps_ret (pe_callB (cr_allK K rfl) (by rfl) T.n_all (by decide +kernel) (pa_cons (pe_lc (own := [("item", 2)]) (g := gName 2) (tt := tYes) rfl sc_is_face.nd (pi_tup (pv 0)) (blkOk_by (N := ["value", "many", "item"]) (sc := defScope s_is_face) (by decide +kernel)) (fun _ _ _ _ _ => pg_name (i := 2) sc_is_face.nd rfl (.inl rfl)) (fun _ _ _ _ _ => pts_nil) (fun _ _ _ _ _ => (pe_and (pe_call G_is_whole (hr.mono (by decide)) (by rfl) D_is_whole.g D_is_whole.kp B_is_whole .nil pass0 (pa_cons (pv 2) pa_nil)) (pe_one (pe_chain op_le op_lt pe_int (pv 2) (pv 1)))))) pa_nil))))), ?_⟩
    have hv' := hv
    cases hv with
    | @tup a xs ds ha hd =>
      have l1 := hd.length
      by_cases c : ds.length = 3
      · have c1 : V.int (xs.length : Int) = V.int 3 := by rw [l1, c]; rfl
        walk_at "go"
        intro D hD
        refine lcV (walk_tup (K := K) (a := a) (xs := xs)) hD (fun i => .bl ((ds[i]?.map (Dt.inb m)).getD false)) (by omega) (fun H2 s => SqT.of (s _ _ ha)) (fun i y H2 H2' hi s y' Kt kt => ?_) (fun H' s hH => ?_) gm_name
        · obtain ⟨rfl, hy⟩ := y'
          refine g_wipe rfl ?_
          obtain ⟨dd, hdd, hq⟩ := DqAll.at hd hy
          have hq := hq.same s
          rw [hdd] at kt
          have kt := kt H2' (Same.refl _)
          cases hq with
          | int j =>
            have kt : Kt (.bl (decide (0 ≤ j) && decide (j < m))) H2' := kt
            by_cases c1 : 0 ≤ j
            · rw [decide_eq_true c1, Bool.true_and] at kt
              walk_at "go"
              exact kt
            · rw [decide_eq_false c1, Bool.false_and] at kt
              walk_at "go"
              exact kt
          | _ => walk_at "go"; exact kt
        · walk_at "go"
          refine g_all (bs := ds.map (Dt.inb m)) ?_ (SqL.of (by rw [hH, map_range _ l1]))
          have e : Dt.isFace m (.tup ds) = (ds.map (Dt.inb m)).all id := by
            rw [isFace_tup, decide_eq_true c, Bool.true_and, List.all_map]
            rfl
          rw [e] at k
          exact k _ s
      · have c1 : ¬ V.int (xs.length : Int) = V.int 3 := fun z => c (by have := V.int.inj z; omega)
        have e : Dt.isFace m (.tup ds) = false := by
          rw [isFace_tup, decide_eq_false c, Bool.false_and]
        rw [e] at k
        walk_at "go"
        exact k _ (Same.refl _)
    | _ => walk_at "go"; exact k _ (Same.refl _)
end
end Ko


namespace Ko
open PySem L2 PySem.Spec PyProof.Rows Xm
open PySem.HandSPX (veTail)
section
variable {P : Program} {w : World} {K : Fg} {mg : Str → Option Value} {base : Heap} {R C f : Addr} {fd : FuncData}
theorem in_BadNet (F : Fun K "__init__" "BadNet.__init__" s_BadNet f fd) (T : RTxt K mg R) (E : Ecl K mg R "BadNet" C ["word", "index"]) : FnOk P w K mg base CX0 1 f fd ["self", "word", "index"] (spI C ["word", "index"]) := by
  refine F.ok sc_BadNet (fun vs H Q E h => ?_) (fun cdv A outer s H vs Q X hr h => ?_)
  · obtain ⟨a, args, rfl, hl, _⟩ := h
    simp [hl]
  · obtain ⟨a, args, rfl, hl, ha, q⟩ := h
    match args, hl with
    | [v, u], _ =>
      refine ⟨_, (pss_cons (ps_expr (pe_base (by rfl) T.g T.rd T.vB (pa_cons (pv 0) (pa_cons pe_str pa_nil))))
      (pss_cons (ps_ost (pv 0) (pv 1))
      (pss_one (ps_ost (pv 0) (pv 2))))), ?_⟩
      refine ⟨_, rfl, a, C, _, rfl, by show 1 ≤ 1000; decide, E.oex, ha, _, rfl, _, rfl, a, C, rfl, E.oex, E.no _ (by simp), .inl ⟨ha, fun d hd hne => ?_⟩⟩
      refine ⟨_, rfl, _, rfl, a, C, rfl, E.oex, E.no _ (by simp), .inr ⟨d, _, upd_same, by rw [upd_ne hne]; exact upd_same, by show 1 ≤ 900; decide, ?_⟩⟩
      exact q _ ⟨.inr ⟨d, hne, by rw [upd_ne hne.symm]; exact upd_same, upd_same⟩, fun p o hp e => by rw [upd_ne (ne_of_none e hd), upd_ne hp, upd_ne (ne_of_none e hd)]; exact e⟩
theorem bd_BadNet (F : Fun K "__init__" "BadNet.__init__" s_BadNet f fd) : Bnd K fd ["word", "index"] :=
  ⟨kb F 3 [] gApp (fun _ _ _ _ => Vals.append) (fun _ _ _ _ _ _ us ws l1 l2 => match us, ws, l1, l2 with | [_, _, _], [], _, _ => rfl), kb F 2 ["index"] gApp (fun _ _ _ _ => Vals.append) (fun _ _ _ _ _ _ us ws l1 l2 => match us, ws, l1, l2 with | [_, _], [_], _, _ => rfl), kb F 1 ["index", "word"] gRev (fun _ _ _ _ a b => a.append b.reverse) (fun _ _ _ _ _ _ us ws l1 l2 => match us, ws, l1, l2 with | [_], [_, _], _, _ => rfl)⟩
theorem in_BadLoft (F : Fun K "__init__" "BadLoft.__init__" s_BadLoft f fd) (T : RTxt K mg R) (E : Ecl K mg R "BadLoft" C []) : FnOk P w K mg base CX0 1 f fd ["self"] (spI C []) := by
  refine F.ok sc_BadLoft (fun vs H Q E h => ?_) (fun cdv A outer s H vs Q X hr h => ?_)
  · obtain ⟨a, args, rfl, hl, _⟩ := h
    simp [hl]
  · obtain ⟨a, args, rfl, hl, ha, q⟩ := h
    match args, hl with
    | [], _ =>
      refine ⟨_, (pss_one (ps_expr (pe_base (by rfl) T.g T.rd T.vB (pa_cons (pv 0) (pa_cons pe_str pa_nil))))), ?_⟩
      refine ⟨_, rfl, a, C, _, rfl, by show 1 ≤ 1000; decide, E.oex, ha, ?_⟩
      exact q _ ⟨.inl ⟨rfl, ha⟩, fun p o hp e => e⟩
theorem bd_BadLoft (F : Fun K "__init__" "BadLoft.__init__" s_BadLoft f fd) : KBn K fd ["self"] 1 [] (fun us ws => us ++ ws) (fun us ws => us ++ ws) :=
  kb F 1 [] gApp (fun _ _ _ _ => Vals.append) (fun _ _ _ _ _ _ us ws l1 l2 => match us, ws, l1, l2 with | [_], [], _, _ => rfl)
end
/-- the one error of this text -/
structure Bn (P : Program) (w : World) (K : Fg) (mg : Str → Option Value) (base : Heap) (R C : Addr) : Prop where
  r : RTxt K mg R
  e : Ecl K mg R "BadNet" C ["word", "index"]
  m : ∃ f fd, Mkr K C f ∧ FnOk P w K mg base CX0 1 f fd ["self", "word", "index"] (spI C ["word", "index"]) ∧ Bnd K fd ["word", "index"]
  ne : C ≠ R
/-- the other one -/
structure Bl (P : Program) (w : World) (K : Fg) (mg : Str → Option Value) (base : Heap) (R C : Addr) : Prop where
  r : RTxt K mg R
  e : Ecl K mg R "BadLoft" C []
  m : ∃ f fd, Mkr K C f ∧ FnOk P w K mg base CX0 1 f fd ["self"] (spI C []) ∧ KBn K fd ["self"] 1 [] (fun us ws => us ++ ws) (fun us ws => us ++ ws)
  ne : C ≠ R
theorem g_rise0 {C : Addr} {H0 H' : Hp} {σ : Sg} {Rz : Value → Prop} {Q : XK} (s : Same H0 H') (hr : Rz (.ref C))
    (k : ∀ d H2, Same H' H2 → (∀ dx, d = some dx → ∃ fs, H2 dx = some (exd dx fs)) → Q (.ref C) d H2) :
    tRs H0 Rz (tErr C 0 0 (spI C []) (fun us ws => us ++ ws) tNil tNil) σ H' Q := by
  refine ⟨rfl, rfl, by decide, fun a ha => ⟨a, [], rfl, rfl, upd_same, fun H3 mk => ⟨rfl, ?_⟩⟩⟩
  have s' : Same H' (delH H3 a) := fun p o e => by
    rw [delH_ne (ne_of_none e ha)]
    exact mk.2 p o (ne_of_none e ha) (by rw [upd_ne (ne_of_none e ha)]; exact e)
  rcases mk.1 with ⟨_, e⟩ | ⟨d, ne, e, ed⟩
  · exact ⟨a, C, none, rfl, e, fr0_none (s.free ha), hr, k none _ s' fun dx z => by cases z⟩
  · exact ⟨a, C, some d, rfl, e, fr0_none (s.free ha), hr, k (some d) _ s' fun dx z => by
      cases z
      exact ⟨_, by rw [delH_ne ne]; exact ed⟩⟩
/-- an error just made, with its fields, is raised -/
theorem rdV {H H3 : Hp} {a C : Addr} {fs : List (Str × V)} {Rz : Value → Prop} {Q : XK} (ha : H a = none) (mk : Made (upd H a (exo a C none)) H3 a C fs) (hf : fs ≠ []) (hr : Rz (.ref C))
    (q : ∀ (d : Addr) (H' : Hp), Same H H' → H' d = some (exd d fs) → Q (.ref C) (some d) H') :
    ∃ (a' C' : Addr) (d : Option Addr), V.ref a = .ref a' ∧ H3 a' = some (exo a' C' d) ∧ Fr0 H a' ∧ Rz (.ref C') ∧ Q (.ref C') d (delH H3 a') := by
  have s : Same H (delH H3 a) := fun p o e => by
    rw [delH_ne (ne_of_none e ha)]
    exact mk.2 p o (ne_of_none e ha) (by rw [upd_ne (ne_of_none e ha)]; exact e)
  rcases mk.1 with ⟨e, _⟩ | ⟨d, ne, e, ed⟩
  · exact absurd e hf
  · exact ⟨a, C, some d, rfl, e, fr0_none ha, hr, q d _ s (by rw [delH_ne ne]; exact ed)⟩
theorem g_rise {C : Addr} {H0 H' : Hp} {σ : Sg} {v : V} {i : Nat} {wd : Str} {Rz : Value → Prop} {Q : XK} (s : Same H0 H') (h : σ[i]? = some (some v)) (hr : Rz (.ref C))
    (k : ∀ dx H2, Same H' H2 → H2 dx = some (exd dx [("index", v), ("word", .str wd)]) → Q (.ref C) (some dx) H2) :
    tRs H0 Rz (tErr C 2 0 (spI C ["word", "index"]) (fun us ws => us ++ ws) (tCons (tC (.str wd)) (tCons (tVar i) tNil)) tNil) σ H' Q := by
  refine ⟨v, h, rfl, rfl, by decide, fun a ha => ⟨a, _, rfl, rfl, upd_same, fun H3 mk => ⟨rfl, ?_⟩⟩⟩
  obtain ⟨a', C', d, e1, e2, e3, e4, e5⟩ := rdV (Q := Q) ha mk (by simp) hr fun d H2 s2 hd => k d H2 s2 hd
  cases e1
  exact ⟨a, C', d, rfl, e2, fr0_none (s.free ha), e4, e5⟩
/-- e.n of the error that the suite holds -/
def tXe (a : Addr) (cls : Value) (d : Option Addr) (C : Addr) (n : Str) (te : TE) : TE := fun σ H Q => te σ H fun x H1 => x = .ref a ∧ cls = .ref C ∧ ∃ (dd : Addr) (fs : List (Str × V)) (v : V), d = some dd ∧ H1 dd = some (exd dd fs) ∧ fs.lookup n = some v ∧ Q v H1
theorem pe_xe {X : Cx} {a C : Addr} {oe : Obj} {cls : Value} {d : Option Addr} {pn : List (Addr × Obj)} {e : Expr} {te : TE} {pos : Pos} {n : Str} (T : XfC X.K C) (hno : PySem.W.findIn X.K (.ref C) n = some none)
    (hz : Zc cls d oe) (hf : ∃ vs, oe.data = .fields vs) (he : PE (X.suite a ((a, oe) :: pn)) e te) (hb : attributeBase e n X.env (eval e X.env) = eval e X.env := by rfl) :
    PE (X.suite a ((a, oe) :: pn)) (.Attribute e n pos) (tXe a cls d C n te) := by
  refine ⟨fun pins s σ H Q I h => attr_of hb (thn (he.run pins s σ H _ I h) fun u s1 hh => ?_)⟩
  obtain ⟨x, H1, I1, rx, ex, ec, dd, fs, v, ed, ea, l, q⟩ := hh
  subst ex ec ed
  obtain rfl : u = Value.ref a := rx
  have pin := (I1.pin (a, oe) (List.mem_append_left _ List.mem_cons_self)).1
  obtain ⟨vs, hd⟩ := hf
  obtain ⟨mA, hns, hr⟩ := exd_at I1.hok ea
  obtain ⟨od, ho, hl⟩ := lookIn_ns hns
  obtain ⟨y, hu, ru⟩ := RelO.some_of (v := v) (o := mA n) (by rw [← l]; exact hr n)
  have J : PySem.W.InstAt s1.heap a oe C (some od) := ⟨pin, hz.1, by unfold PySem.W.notCls; rw [hd] <;> rfl, by rw [hz.2]; exact ho⟩
  exact HandSPX.exc_get I1.kIn J T.ga T.gg T.exC (PySem.W.findObj_own T.hdC hno rfl (by rw [hl, hu])) (handed_of ru) ⟨v, H1, I1.tok _, ru, q⟩
end Ko


namespace Ko
open PySem L2 PySem.Spec PyProof.Rows Xm
/-! what is wrong of the items -/
def badAt (p : Dt → Bool) : List Dt → Option Nat
  | [] => none
  | d :: l => if p d = true then (badAt p l).map (· + 1) else some 0
theorem badAt_none {p : Dt → Bool} : ∀ {l : List Dt}, (∀ (j : Nat) d, l[j]? = some d → p d = true) → badAt p l = none
  | [], _ => rfl
  | d :: l, h => by
    rw [badAt, if_pos (h 0 d rfl), badAt_none fun j d' e => h (j + 1) d' e]
    rfl
theorem badAt_some {p : Dt → Bool} : ∀ {l : List Dt} {i : Nat} {d : Dt}, (∀ (j : Nat) d, j < i → l[j]? = some d → p d = true) → l[i]? = some d → p d = false → badAt p l = some i
  | [], i, d, _, e, _ => by simp at e
  | d' :: l, 0, d, h, e, q => by
    cases e
    rw [badAt, if_neg (by rw [q]; decide)]
  | d' :: l, i + 1, d, h, e, q => by
    rw [badAt, if_pos (h 0 d' (Nat.succ_pos _) rfl), badAt_some (i := i) (d := d) (fun j d'' lt e' => h (j + 1) d'' (Nat.succ_lt_succ lt) e') e q]
    rfl
/-- the word and the index of the first wrong item -/
def netBad (cs fs : List Dt) : Option (Str × Nat) := match badAt Dt.isCorner cs with
  | some i => some ("corner", i)
  | none => match badAt (Dt.isFace cs.length) fs with
    | some i => some ("face", i)
    | none => none
def pairD : Dt → Dt
  | .int n => .tup [.int n, .int 1]
  | d => d
def cornerD : Dt → Dt
  | .tup l => .tup (l.map pairD)
  | d => d
/-- a list or a tuple -/
def SeqV (H : Hp) (a : Addr) (xs : List V) : Prop := H a = some (.lst xs) ∨ H a = some (.tup xs)
theorem SeqV.same {H H' : Hp} {a : Addr} {xs : List V} (s : Same H H') (h : SeqV H a xs) : SeqV H' a xs := h.elim (fun h => .inl (s _ _ h)) fun h => .inr (s _ _ h)
theorem SeqV.sq {K : Fg} {H : Hp} {a : Addr} {xs : List V} (h : SeqV H a xs) : SqL K H a xs ∨ SqT K H a xs := h.elim (fun h => .inl (SqL.of h)) fun h => .inr (SqT.of h)
section
variable {K : Fg} {H : Hp} {Q : VK} {E : XK} {a : Addr} {xs : List V}
theorem g_lenA (q : Q (.int xs.length) H) (h : SeqV H a xs) : rgLen K [.ref a] H Q := h.elim (fun h => g_lenL q (SqL.of h)) fun h => g_lenT q (SqT.of h)
theorem g_tupA (h : SeqV H a xs) (q : ∀ t H', Same H H' → (∀ p, H p = none → p ≠ t → H' p = none) → H' t = some (.tup xs) → Q (.ref t) H') : rgTupOf K [.ref a] H Q := by
  rcases h with h | h
  · exact ⟨a, xs, rfl, .inl ⟨SqL.of h, fun l nl => q l _ (same_new nl) (fun p hp ne => by rw [upd_ne ne]; exact hp) upd_same⟩⟩
  · exact ⟨a, xs, rfl, .inr ⟨SqT.of h, q a H (Same.refl _) (fun p hp _ => hp) h⟩⟩
theorem g_enumSeq {R : It → Prop} (h : SeqV H a xs) (q : ∀ J, Walk J xs.length (fun H' => SeqV H' a xs ∧ H' a = H a) (YPair (fun i => some (.int (i : Nat))) (fun i => xs[i]?)) → R J) :
    ∃ a' xs' J, [V.ref a] = [.ref a'] ∧ EnJ K H a' xs' J ∧ R J := by
  rcases h with h | h
  · exact ⟨a, xs, _, rfl, .inl ⟨SqL.of h, rfl⟩, q _ (walk_enum.mono (fun H' g => SqL.of (by rw [g.2]; exact h)) fun _ _ _ _ _ _ y => y)⟩
  · exact ⟨a, xs, _, rfl, .inr ⟨SqT.of h, rfl⟩, q _ (walk_enumT.mono (fun H' g => SqT.of (by rw [g.2]; exact h)) fun _ _ _ _ _ _ y => y)⟩
theorem g_seqSeq {R : It → Prop} (h : SeqV H a xs) (q : ∀ J, Walk J xs.length (fun H' => SeqV H' a xs ∧ H' a = H a) (YAt xs) → R J) :
    ∃ a' xs' J, V.ref a = .ref a' ∧ SeJ K H a' xs' J ∧ R J := by
  rcases h with h | h
  · exact ⟨a, xs, _, rfl, .inl ⟨SqL.of h, rfl⟩, q _ (walk_list.mono (fun H' g => SqL.of (by rw [g.2]; exact h)) fun _ _ _ _ _ _ y => y)⟩
  · exact ⟨a, xs, _, rfl, .inr ⟨SqT.of h, rfl⟩, q _ (walk_tup.mono (fun H' g => SqT.of (by rw [g.2]; exact h)) fun _ _ _ _ _ _ y => y)⟩
theorem SeqV.stay {H' : Hp} (s : Same H H') (h : SeqV H a xs) : SeqV H' a xs ∧ H' a = H a := by
  refine ⟨h.same s, ?_⟩
  rcases h with h | h
  · rw [h, s _ _ h]
  · rw [h, s _ _ h]
theorem g_iEnumA {ta : TA} {σ : Sg} {R : It → Hp → Prop} (q : ta σ H fun vs H1 => ∃ a xs J, vs = [.ref a] ∧ EnJ K H1 a xs J ∧ R J H1) : iEnumA K ta σ H R := q
theorem g_iSeqA {tl : TE} {σ : Sg} {R : It → Hp → Prop} (q : tl σ H fun x H1 => ∃ a xs J, x = .ref a ∧ SeJ K H1 a xs J ∧ R J H1) : iSeqA K tl σ H R := q
theorem g_sfld {ta tv : TE} {f : Str} {D : Ends} {σ : Sg} (q : tv σ H fun y H1 => ta σ H1 fun x H2 => ∃ a C dx fs, x = .ref a ∧ H2 a = some (.ins C dx fs) ∧ Cls K C ∧ NoAttr K C f ∧ fs.length < 1000 ∧ D.nx σ (upd H2 a (.ins C dx (putF f y fs)))) : sFld K ta tv f D σ H := q
theorem g_pairFor {i j : Nat} {T : Addr} {x y : V} {σ : Sg} {N : Sg → Hp → Prop} (h : SqT K H T [x, y]) (q : N ((σ.set i (some x)).set j (some y)) H) : gTup K 2 (gCons (gName i) (gCons (gName j) gNil)) (.ref T) σ H N := ⟨T, _, rfl, h, rfl, x, _, rfl, y, _, rfl, rfl, q⟩
/-- a number of the data -/
theorem num_nm {v : V} {d : Dt} (h : Dq H v d) (n : d.isNum = true) : ∃ q, Nm H v q ∧ pairD d = .pq q := by
  cases h with
  | int i => exact ⟨(i, 1), .inr ⟨rfl, rfl⟩, rfl⟩
  | @tup a xs ds ha hd =>
    match ds, hd, n with
    | [.int a1, .int b1], .cons (.int _) (.cons (.int _) .nil), _ => exact ⟨(a1, b1), .inl ⟨a, rfl, ha⟩, rfl⟩
    | [], _, n => cases n
    | [.int _], _, n => cases n
    | [.non], _, n => cases n
    | [.bl _], _, n => cases n
    | [.str _], _, n => cases n
    | [.lst _], _, n => cases n
    | [.tup _], _, n => cases n
    | .non :: _ :: _, _, n => cases n
    | .bl _ :: _ :: _, _, n => cases n
    | .str _ :: _ :: _, _, n => cases n
    | .lst _ :: _ :: _, _, n => cases n
    | .tup _ :: _ :: _, _, n => cases n
    | .int _ :: .non :: _, _, n => cases n
    | .int _ :: .bl _ :: _, _, n => cases n
    | .int _ :: .str _ :: _, _, n => cases n
    | .int _ :: .lst _ :: _, _, n => cases n
    | .int _ :: .tup _ :: _, _, n => cases n
    | .int _ :: .int _ :: _ :: _, _, n => cases n
  | _ => cases n
end
theorem del_upd {H : Hp} {a : Addr} {o : HO} : delH (upd H a o) a = delH H a := funext fun p => by
  by_cases h : p = a
  · subst h
    rw [delH_same, delH_same]
  · rw [delH_ne h, delH_ne h, upd_ne h]
mutual
theorem Dq.del {H : Hp} {x : Addr} {o : HO} (hx : H x = some o) (n1 : ∀ xs, o ≠ .lst xs) (n2 : ∀ xs, o ≠ .tup xs) : ∀ {v : V} {d : Dt}, Dq H v d → Dq (delH H x) v d
  | _, _, .non => .non
  | _, _, .bl b => .bl b
  | _, _, .int i => .int i
  | _, _, .str x => .str x
  | _, _, .lst h r => .lst (mk_at h (fun z => by
      rw [z, hx] at h
      exact n1 _ (Option.some.inj h))) (DqAll.del hx n1 n2 r)
  | _, _, .tup h r => .tup (mk_at h (fun z => by
      rw [z, hx] at h
      exact n2 _ (Option.some.inj h))) (DqAll.del hx n1 n2 r)
theorem DqAll.del {H : Hp} {x : Addr} {o : HO} (hx : H x = some o) (n1 : ∀ xs, o ≠ .lst xs) (n2 : ∀ xs, o ≠ .tup xs) : ∀ {vs : List V} {ds : List Dt}, DqAll H vs ds → DqAll (delH H x) vs ds
  | _, _, .nil => .nil
  | _, _, .cons h r => .cons (Dq.del hx n1 n2 h) (DqAll.del hx n1 n2 r)
end
/-- data of numbers, beside D -/
theorem pq_del {H : Hp} {D t : Addr} {q : Pq} (h : H t = some (.tup [.int q.1, .int q.2])) (hD : ∃ acc, H D = some (.lst acc)) : Dq (delH H D) (.ref t) (.pq q) := by
  obtain ⟨acc, hD⟩ := hD
  have ne : t ≠ D := ne_of h hD (by intro z; cases z)
  exact .tup (mk_at h ne) (.cons (.int _) (.cons (.int _) .nil))
theorem but_same {D : Addr} {H H' : Hp} (h : But D H H') : Same (delH H D) (delH H' D) := fun a o e => by
  have ne := mk_ne e
  rw [delH_ne ne]
  exact h a o ne (by rw [delH_ne ne] at e; exact e)
/-- data made by places -/
theorem dqAll_of {H : Hp} : ∀ {vs : List V} {ds : List Dt}, vs.length = ds.length → (∀ (k : Nat) v, vs[k]? = some v → ∃ d, ds[k]? = some d ∧ Dq H v d) → DqAll H vs ds
  | [], [], _, _ => .nil
  | v :: vs, d :: ds, hl, h => by
    obtain ⟨d', e, q⟩ := h 0 v rfl
    cases e
    exact .cons q (dqAll_of (by simpa using hl) fun k v' e => h (k + 1) v' e)
  | [], _ :: _, hl, _ => by simp at hl
  | _ :: _, [], hl, _ => by simp at hl
section
variable {H : Hp} {Q : VK} {E : XK} {v : V} {d : Dt} {b : Bool}
theorem sp_cornerB (h : Dq H v d) (e : d.isCorner = b) (k : ∀ H', Same H H' → Q (.bl b) H') : spCorner [v] H Q E := ⟨v, d, rfl, h, by rw [e]; exact k⟩
theorem sp_faceB {m : Int} (h : Dq H v d) (e : d.isFace m = b) (k : ∀ H', Same H H' → Q (.bl b) H') : spFace [v, .int m] H Q E := ⟨v, d, m, rfl, h, by rw [e]; exact k⟩
end
/-- Net.__init__: made, or the error -/
def spNet (C CB : Addr) : Sp := fun vs H Q E => ∃ (x dx a b : Addr) (xs ys : List V) (cds fds : List Dt), vs = [.ref x, .ref a, .ref b] ∧ H x = some (.ins C dx []) ∧ SeqV (delH H x) a xs ∧ SeqV (delH H x) b ys ∧ DqAll (delH H x) xs cds ∧ DqAll (delH H x) ys fds ∧
  cds.length ≤ 1000 ∧ fds.length ≤ 1000 ∧
  (netBad cds fds = none → ∀ H' ca fa, Same (delH H x) (delH H' x) → H' x = some (.ins C dx [("corners", .ref ca), ("faces", .ref fa)]) → Dq (delH H' x) (.ref ca) (.tup (cds.map cornerD)) → Dq (delH H' x) (.ref fa) (.tup fds) → Q .non H') ∧
  ∀ wd i, netBad cds fds = some (wd, i) → ∀ dd H', Same (delH H x) (delH H' x) → delH H' x dd = some (exd dd [("index", .int (i : Nat)), ("word", .str wd)]) → E (.ref CB) (some dd) H'

local macro_rules | `(tactic| walk_at "hpS") => `(tactic| with_reducible first
  | exact Same.refl _
  | assumption
  | (refine' Same.trans ?hq (same_new (by assumption)); (case hq => walk_at "hpS"))
  | (refine' Same.trans ?hq (by assumption); (case hq => walk_at "hpS"))
  | fail)
local macro_rules | `(tactic| walk_at "hpH") => `(tactic| with_reducible first
  | assumption
  | exact upd_same
  | (refine' same_at (same_new (by assumption)) ?hq; (case hq => walk_at "hpH"))
  | (refine' same_at (by assumption) ?hq; (case hq => walk_at "hpH"))
  | fail)
local macro_rules | `(tactic| walk_at "hpTo") => `(tactic| with_reducible first
  | assumption
  | (refine' sq_t (same_new (by assumption)) ?hq; (case hq => walk_at "hpTo"))
  | (refine' sq_t (by assumption) ?hq; (case hq => walk_at "hpTo"))
  | fail)
local macro_rules | `(tactic| walk_at "hpT") => `(tactic| with_reducible first
  | (refine' SqT.of ?hq; (case hq => walk_at "hpH"))
  | walk_at "hpTo"
  | fail)
local macro_rules | `(tactic| walk_at "hpLo") => `(tactic| with_reducible first
  | assumption
  | (refine' sq_l (same_new (by assumption)) ?hq; (case hq => walk_at "hpLo"))
  | (refine' sq_l (by assumption) ?hq; (case hq => walk_at "hpLo"))
  | fail)
local macro_rules | `(tactic| walk_at "hpL") => `(tactic| with_reducible first
  | (refine' SqL.of ?hq; (case hq => walk_at "hpH"))
  | walk_at "hpLo"
  | fail)
local macro_rules | `(tactic| walk_at "kit") => `(tactic| with_reducible first
  | exact kit_int_bool | exact kit_int_int | exact kit_int_tuple | exact kit_int_list | exact kit_int_str
  | exact kit_tuple_tuple | exact kit_tuple_int | exact kit_tuple_bool | exact kit_tuple_list | exact kit_tuple_str
  | exact kit_bool_bool | exact kit_bool_int | exact kit_bool_tuple | exact kit_bool_list | exact kit_bool_str
  | exact kit_str_str | exact kit_str_int | exact kit_str_bool | exact kit_str_tuple | exact kit_str_list
  | exact kit_NoneType_int | exact kit_NoneType_bool | exact kit_NoneType_tuple | exact kit_NoneType_list | exact kit_NoneType_str
  | exact kit_list_list | exact kit_list_tuple | exact kit_list_int | exact kit_list_bool | exact kit_list_str
  | fail)
local macro_rules | `(tactic| walk_at "call") => `(tactic| fail)
local macro_rules | `(tactic| walk_at "s0") => `(tactic| with_reducible first
  | refine g_seq ?_ | refine g_asg ?_ | refine g_name ?_ | refine g_ifS ?_ | refine g_ret ?_ | refine g_retN ?_ | refine g_next ?_
  | refine g_par ?_ | refine g_parE ?_ | refine g_drop ?_
  | refine g_c ?_ | refine g_op ?_ | refine g_un ?_ | refine g_cb ?_ | refine g_call ?_ | refine g_nil ?_ | refine g_cons ?_ | refine g_tup ?_ | refine g_lst ?_
  | refine g_test ?_ | refine g_B ?_ | refine g_blF ?_ | refine g_and ?_ | refine g_or ?_ | refine g_not ?_ | refine g_andV ?_ | refine g_orV ?_ | refine g_notV ?_ | refine g_if ?_
  | refine iteT ?_ | refine iteF ?_
  | refine g_chain ?_ | refine g_sl ?_ | refine g_noPart ?_ | refine g_part ?_ | refine g_partI ?_ | refine g_slS ?_ ?side | refine g_M1 ?_ | refine g_M1s ?_ | refine g_starts ?_ | refine g_bm ?_ | refine g_bm0 ?_ | refine g_tyS ?_
  | refine g_Fs ?_ | refine g_JsN ?_ | refine g_JsC ?_ | refine g_JsE ?_ ?side | refine g_fmt ?_ | refine g_fmtI ?_ ?side | refine g_fmtS ?_ ?side | refine g_iList ?_ | refine g_iTup ?_ | refine g_iStr ?_ | refine g_iStrE ?_ | refine g_iRng1 ?_ | refine g_iRng1E ?_ ?side1 ?side2 | refine g_yes ?_ | refine g_ckw ?_ | refine g_dget ?_ | refine g_dictZip ?_ | refine g_gCons ?_ | refine g_gNil ?_ | refine g_revL ?_ | refine g_for ?_ | refine g_lc ?_ | refine g_addS ?_ ?side | refine g_str ?_ ?side | refine g_lenS ?_ ?side
  | refine g_rI0 ?_ | refine g_rI ?_ ?side | refine g_rU ?_ | refine g_abs ?_ | refine g_int ?_ | refine g_intB ?_ | refine g_gcd ?_ | refine g_inS ?_ | refine g_isN0 ?_ | refine g_notN0 ?_
  | fail)
local macro_rules | `(tactic| walk_at "s1") => `(tactic| first
  | ((with_reducible refine' g_var ?h ?_); (case h => exact rfl))
  | ((with_reducible refine' g_new ?h ?_); (case h => exact (by simp only [List.length_cons, List.length_nil]; decide)); intro tnew htnew)
  | ((with_reducible refine' iteDT ?h ?_); (case h => first | exact rfl | assumption))
  | ((with_reducible refine' iteNT ?h ?_); (case h => first | exact rfl | assumption))
  | ((with_reducible refine' iteDF ?h ?_); (case h => first | assumption | (intro z; cases z)))
  | ((with_reducible refine' iteNF ?h ?_); (case h => first | assumption | (intro z; cases z)))
  | ((with_reducible refine' g_eq ?_ ?h); (case h => exact rfl))
  | ((with_reducible refine' g_ne ?_ ?h); (case h => exact rfl))
  | ((with_reducible refine' g_ixT ?_ ?h ?e); (case h => walk_at "hpT"); (case e => first | exact rfl | exact atI_0 | exact atI_1))
  | ((with_reducible refine' g_ixL ?_ ?h ?e); (case h => walk_at "hpL"); (case e => first | exact rfl | exact atI_0 | exact atI_1))
  | ((with_reducible refine' g_isi_int ?_ ?h); (case h => walk_at "kit"))
  | ((with_reducible refine' g_isi_str ?_ ?h); (case h => walk_at "kit"))
  | ((with_reducible refine' g_isi_bl ?_ ?h); (case h => walk_at "kit"))
  | ((with_reducible refine' g_isi_non ?_ ?h); (case h => walk_at "kit"))
  | ((with_reducible refine' g_isi_t ?_ ?t ?h); (case t => walk_at "hpT"); (case h => walk_at "kit"))
  | ((with_reducible refine' g_isi_l ?_ ?t ?h ?l); (case l => walk_at "hpH"); (case t => walk_at "hpL"); (case h => walk_at "kit"))
  | ((with_reducible refine' g_lenT ?_ ?h); (case h => walk_at "hpT"))
  | ((with_reducible refine' g_lenL ?_ ?h); (case h => walk_at "hpL"))
  | ((with_reducible refine' g_split ?_ ?h ?side); (case h => exact rfl); intro pnew hpnew)
  | ((with_reducible refine' g_slL ?h ?_); (case h => walk_at "hpL"); intro pnew hpnew)
  | ((with_reducible refine' g_iListE ?_ ?h); (case h => walk_at "hpL"))
  | ((with_reducible refine' g_iTupE ?_ ?h); (case h => walk_at "hpT"))
  | ((with_reducible refine' g_tyL ?_ ?h); (case h => walk_at "hpL"))
  | ((with_reducible refine' g_join ?_ ?h ?side); (case h => walk_at "hpL"))
  | ((with_reducible refine' g_append ?_ ?h ?side); (case h => walk_at "hpH"))
  | ((with_reducible refine' g_all ?_ ?h); (case h => walk_at "hpL"))
  | ((with_reducible refine' g_gTup ?_ ?h ?n); (case h => walk_at "hpT"); (case n => exact rfl))
  | ((with_reducible refine' g_revLE ?h ?_); (case h => walk_at "hpL"); intro pnew hpnew)
  | ((with_reducible refine' g_isN1 ?_ ?h); (case h => first | assumption | (intro z; cases z)))
  | ((with_reducible refine' g_notN1 ?_ ?h); (case h => first | assumption | (intro z; cases z)))
  | walk_at "call"
  | ((with_reducible refine' iteBT ?h ?_); (case h => first | assumption | exact rfl))
  | ((with_reducible refine' iteBF ?h ?_); (case h => first | assumption | exact rfl))
  | fail)
local macro_rules | `(tactic| walk_at "nrm") => `(tactic| simp only [Bool.not_true, Bool.not_false, decide_eq_true_eq, decide_true, decide_false, Bool.true_and, Bool.false_and, Bool.and_true, Bool.and_false, V.int.injEq, V.bl.injEq, V.str.injEq, List.length_cons, List.length_nil, Bool.not_eq_true', decide_eq_false_iff_not, Int.not_lt, Int.not_le, reduceCtorEq, not_false_eq_true, not_true_eq_false, Decidable.not_not] at *)
local macro_rules | `(tactic| walk_at "sp") => `(tactic| ((with_reducible refine ite2 (fun c => ?_) (fun c => ?_)) <;> (try simp only [decide_eq_true_eq, Bool.not_eq_true', decide_eq_false_iff_not, V.int.injEq, V.bl.injEq, V.str.injEq, Int.not_lt, Int.not_le, reduceCtorEq, Decidable.not_not, Bool.false_eq_true, Bool.true_eq_false] at c) <;> (try (exfalso; omega))))
local macro_rules | `(tactic| walk_at "s") => `(tactic| first | walk_at "s0" | walk_at "s1" | fail)
local macro_rules | `(tactic| walk_at "go") => `(tactic| (try dsimp only [cxK, cxK']); repeat' walk_at "s")
local macro_rules | `(tactic| walk_at "gos") => `(tactic| ((try dsimp only [cxK, cxK']); repeat' (first | walk_at "s" | walk_at "sp" | fail)))

local macro_rules | `(tactic| walk_at "hpNo") => `(tactic| with_reducible first
  | assumption
  | (refine' Nm.ofPr ?hq; (case hq => assumption))
  | (refine' Nm.same (same_new (by assumption)) ?hq; (case hq => walk_at "hpNo"))
  | (refine' Nm.same (by assumption) ?hq; (case hq => walk_at "hpNo"))
  | fail)
local macro_rules | `(tactic| walk_at "hpN") => `(tactic| with_reducible first
  | walk_at "hpNo"
  | (refine' Nm.of ?hq; (case hq => walk_at "hpH"))
  | fail)
local macro_rules | `(tactic| walk_at "hpPo") => `(tactic| with_reducible first
  | assumption
  | (refine' Pr.same (same_new (by assumption)) ?hq; (case hq => walk_at "hpPo"))
  | (refine' Pr.same (by assumption) ?hq; (case hq => walk_at "hpPo"))
  | fail)
local macro_rules | `(tactic| walk_at "hpP") => `(tactic| with_reducible first
  | walk_at "hpPo"
  | (refine' Pr.of ?hq; (case hq => walk_at "hpH"))
  | fail)
local macro_rules | `(tactic| walk_at "hpDo") => `(tactic| with_reducible first
  | assumption
  | exact Dq.int _ | exact Dq.bl _ | exact Dq.str _ | exact Dq.non
  | (refine' Dq.same (same_new (by assumption)) ?hq; (case hq => walk_at "hpDo"))
  | (refine' Dq.same (by assumption) ?hq; (case hq => walk_at "hpDo"))
  | fail)
local macro_rules | `(tactic| walk_at "hpD") => `(tactic| with_reducible first
  | walk_at "hpDo"
  | fail)

local macro_rules | `(tactic| walk_at "call") => `(tactic| first
  | ((with_reducible refine' sp_pair ?h ?_); (case h => walk_at "hpN"); intro tp Hp' sp' hp')
  | ((with_reducible refine' sp_cornerB ?h ?e ?_); (case h => walk_at "hpD"); (case e => assumption); intro Hc' sc')
  | ((with_reducible refine' sp_faceB ?h ?e ?_); (case h => walk_at "hpD"); (case e => assumption); intro Hc' sc')
  | ((with_reducible refine' g_lenA ?_ ?h); (case h => assumption))
  | (with_reducible refine g_sfld ?_) | (with_reducible refine g_iEnumA ?_) | (with_reducible refine g_iSeqA ?_)
  | fail)
section
variable {P : Program} {w : World} {K : Fg} {mg : Str → Option Value} {base : Heap} {R C CN f f1 f2 f3 : Addr} {fd : FuncData}
theorem ok_Net_init (F : Fun K "__init__" "Net.__init__" s_Net_init f fd) (T : Blt mg) (Z : Bn P w K mg base R C) (cl : Cls K CN) (nC : NoAttr K CN "corners") (nF : NoAttr K CN "faces") (D_is_corner : Df P w K mg base 4 "is_corner" f1 ["value"] spCorner) (D_is_face : Df P w K mg base 4 "is_face" f2 ["value", "many"] spFace)
    (D_pair : Df P w K mg base 1 "pair" f3 ["a"] spPair) : FnOk P w K mg base (L2.CX P w) 5 f fd ["self", "corners", "faces"] (spNet CN C) := by
  obtain ⟨_, G_is_corner, B_is_corner⟩ := D_is_corner.ok
  obtain ⟨_, G_is_face, B_is_face⟩ := D_is_face.ok
  obtain ⟨_, G_pair, B_pair⟩ := D_pair.ok
  obtain ⟨_, _, M_BadNet, F_BadNet, BP_BadNet, _⟩ := Z.m
  refine F.okX sc_Net_init (fun vs H Q E h => ?_) (fun cdv A outer s H vs Q E hr h => ?_)
  · obtain ⟨x, dx, a, b, xs, ys, cds, fds, rfl, _⟩ := h
    rfl
  · obtain ⟨x, dx, a, b, xs, ys, cds, fds, rfl, hx, ha, hb, hxs, hys, lc, lf, kq, ke⟩ := h
    have l1 := hxs.length
    have l2 := hys.length
    have ha0 := ha.same mk_same
    have hb0 := hb.same mk_same
    refine ⟨_, (pss_cons (ps_for (passes_of rfl) rfl (pi_enumA (by rfl) T.n_enumerate (pa_cons (pv 1) pa_nil)) (pg_tup rfl (pgs_cons (pg_name (i := 3) sc_Net_init.nd rfl (.inl rfl)) (pgs_cons (pg_name (i := 4) sc_Net_init.nd rfl (.inl rfl)) pgs_nil)))
      (pss_one (ps_if (pt_not (pt_val (pe_call G_is_corner (hr.mono (by decide)) (by rfl) D_is_corner.g D_is_corner.kp B_is_corner .nil pass0 (pa_cons (pv 4) pa_nil))))
      (pss_one (ps_raise rfl (takes_of rfl rfl rfl rfl) (pmk_err rfl (pe_errP M_BadNet F_BadNet (hr.mono (by decide)) (by rfl) Z.e.g BP_BadNet (pa_cons pe_str (pa_cons (pv 3) pa_nil)))))) pss_nil)))
      (pss_cons (ps_for (passes_of rfl) rfl (pi_enumA (by rfl) T.n_enumerate (pa_cons (pv 2) pa_nil)) (pg_tup rfl (pgs_cons (pg_name (i := 3) sc_Net_init.nd rfl (.inl rfl)) (pgs_cons (pg_name (i := 5) sc_Net_init.nd rfl (.inl rfl)) pgs_nil)))
      (pss_one (ps_if (pt_not (pt_val (pe_call G_is_face (hr.mono (by decide)) (by rfl) D_is_face.g D_is_face.kp B_is_face .nil pass0 (pa_cons (pv 5) (pa_cons (pe_callB (cg_lenK K) (by rfl) T.n_len (by decide +kernel) (pa_cons (pv 1) pa_nil)) pa_nil)))))
      (pss_one (ps_raise rfl (takes_of rfl rfl rfl rfl) (pmk_err rfl (pe_errP M_BadNet F_BadNet (hr.mono (by decide)) (by rfl) Z.e.g BP_BadNet (pa_cons pe_str (pa_cons (pv 3) pa_nil)))))) pss_nil)))
      (pss_cons (ps_fld (pv 0) (pe_callTy (cg_tupOf K) (by rfl) T.n_tuple (by decide +kernel) (pa_cons (pe_lc (own := [("x", 6), ("y", 7), ("z", 8)]) (g := gTup K 3 (gCons (gName 6) (gCons (gName 7) (gCons (gName 8) gNil)))) (tt := tYes) rfl sc_Net_init.nd (pi_seqA (pv 1)) (blkOk_by (N := ["self", "corners", "faces", "at", "corner", "face", "x", "y", "z"]) (sc := defScope s_Net_init) (by decide +kernel)) (fun _ _ _ _ _ => by exact pg_tup rfl (pgs_cons (pg_name (i := 6) sc_Net_init.nd rfl (.inl rfl) (.inr rfl)) (pgs_cons (pg_name (i := 7) sc_Net_init.nd rfl (.inl rfl) (.inr rfl)) (pgs_cons (pg_name (i := 8) sc_Net_init.nd rfl (.inl rfl) (.inr rfl)) pgs_nil)))) (fun _ _ _ _ _ => pts_nil) (fun _ _ _ _ _ => (pe_tup (pa_cons (pe_call G_pair (hr.mono (by decide)) (by rfl) D_pair.g D_pair.kp B_pair .nil pass0 (pa_cons (pv 6) pa_nil)) (pa_cons (pe_call G_pair (hr.mono (by decide)) (by rfl) D_pair.g D_pair.kp B_pair .nil pass0 (pa_cons (pv 7) pa_nil)) (pa_cons (pe_call G_pair (hr.mono (by decide)) (by rfl) D_pair.g D_pair.kp B_pair .nil pass0 (pa_cons (pv 8) pa_nil)) pa_nil)))))) pa_nil)) (by rfl))
      (pss_one (ps_fld (pv 0) (pe_callTy (cg_tupOf K) (by rfl) T.n_tuple (by decide +kernel) (pa_cons (pv 2) pa_nil)) (by rfl)))))), ?_⟩
    have rz : Raises (cxOf (CX P w) P w K mg base ["self", "corners", "faces", "at", "corner", "face", "x", "y", "z"] "Net.__init__" (defScope s_Net_init) f cdv A outer s H E) (.ref C) := raises_own Z.e.oex.exC Z.e.oex.tyC
    walk_at "go"
    refine g_enumSeq ha0 fun J wJ => ?_
    refine for_it wJ (fun i σ H' => ∃ v3 v4, σ = [some (.ref x), some (.ref a), some (.ref b), v3, v4, none, none, none, none] ∧ Same H H' ∧ ∀ (j : Nat) d, j < i → cds[j]? = some d → d.isCorner = true) ⟨none, none, rfl, Same.refl _, fun j d lt => absurd lt (Nat.not_lt_zero _)⟩
      (fun i σ H' _ h => ?_) (fun i y σ H1 H2 hi h hy => ?_) (fun σ H' h => ?_)
    · obtain ⟨_, _, _, s1, _⟩ := h
      exact ha0.stay s1
    · obtain ⟨v3, v4, rfl, s1, hg⟩ := h
      obtain ⟨Tp, xi, vi, rfl, nT, rfl, e1, e2⟩ := hy
      cases e1
      have s2 := s1.trans (same_new (o := .tup [.int (i : Nat), vi]) nT)
      refine g_pairFor (SqT.of upd_same) ?_
      generalize upd H1 Tp (.tup [.int (i : Nat), vi]) = H2 at s2
      obtain ⟨d, hd, qd⟩ := DqAll.at hxs e2
      have qd := (qd.same mk_same).same s2
      cases c : d.isCorner with
      | true =>
        walk_at "go"
        refine ⟨_, _, rfl, by walk_at "hpS", fun j d' lt e => ?_⟩
        rcases Nat.lt_or_ge j i with l | g
        · exact hg j d' l e
        · have ej : j = i := by omega
          subst ej
          rw [hd] at e
          cases e
          exact c
      | false =>
        walk_at "go"
        have hbd : netBad cds fds = some (("corner" : Str), i) := by
          unfold netBad
          rw [badAt_some hg hd c]
        rename_i Hc sc
        refine g_rise (Q := E) (s2.trans sc) rfl rz fun dd H4 s4 hdd => ?_
        have s5 : Same H H4 := (s2.trans sc).trans s4
        exact ke _ _ hbd dd H4 (mk_mono s5) (mk_at hdd (by
          have hx4 := s5 _ _ hx
          intro e
          rw [e, hx4] at hdd
          cases hdd))
    · obtain ⟨v3, v4, rfl, s1, hg⟩ := h
      have hbc : badAt Dt.isCorner cds = none := badAt_none fun j d e => hg j d (by
        have := (List.getElem?_eq_some_iff.mp e).1
        omega) e
      have ha1 := ha0.same s1
      have hb1 := hb0.same s1
      walk_at "go"
      refine g_enumSeq hb1 fun J wJ => ?_
      refine for_it wJ (fun i σ H'' => ∃ v3 v4 v5, σ = [some (.ref x), some (.ref a), some (.ref b), v3, v4, v5, none, none, none] ∧ Same H' H'' ∧ ∀ (j : Nat) d, j < i → fds[j]? = some d → d.isFace cds.length = true) ⟨v3, v4, none, rfl, Same.refl _, fun j d lt => absurd lt (Nat.not_lt_zero _)⟩
        (fun i σ H' _ h => ?_) (fun i y σ H1 H2 hi h hy => ?_) (fun σ H'' h => ?_)
      · obtain ⟨_, _, _, _, s2, _⟩ := h
        exact hb1.stay s2
      · obtain ⟨v3, v4, v5, rfl, s2, hgf⟩ := h
        obtain ⟨Tp, xi, vi, rfl, nT, rfl, e1, e2⟩ := hy
        cases e1
        have s3 := (s1.trans s2).trans (same_new (o := .tup [.int (i : Nat), vi]) nT)
        have s3' := s2.trans (same_new (o := .tup [.int (i : Nat), vi]) nT)
        refine g_pairFor (SqT.of upd_same) ?_
        generalize upd H1 Tp (.tup [.int (i : Nat), vi]) = H2 at s3 s3'
        obtain ⟨d, hd, qd⟩ := DqAll.at hys e2
        have qd := (qd.same mk_same).same s3
        have ha2 := ha0.same s3
        have el : (xs.length : Int) = (cds.length : Int) := by omega
        cases c : d.isFace cds.length with
        | true =>
          rw [← el] at c
          walk_at "go"
          refine ⟨_, _, _, rfl, by walk_at "hpS", fun j d' lt e => ?_⟩
          rcases Nat.lt_or_ge j i with l | g
          · exact hgf j d' l e
          · have ej : j = i := by omega
            subst ej
            rw [hd] at e
            cases e
            rw [← el]
            exact c
        | false =>
          have hbd : netBad cds fds = some (("face" : Str), i) := by
            unfold netBad
            rw [hbc]
            show (match badAt (Dt.isFace cds.length) fds with
              | some i => some (("face" : Str), i)
              | none => none) = _
            rw [badAt_some hgf hd c]
          rw [← el] at c
          walk_at "go"
          rename_i Hc sc
          refine g_rise (Q := E) (s3.trans sc) rfl rz fun dd H4 s4 hdd => ?_
          have s5 : Same H H4 := (s3.trans sc).trans s4
          exact ke _ _ hbd dd H4 (mk_mono s5) (mk_at hdd (by
            have hx4 := s5 _ _ hx
            intro e
            rw [e, hx4] at hdd
            cases hdd))
      · obtain ⟨v3, v4, v5, rfl, s2, hgf⟩ := h
        have hbn : netBad cds fds = none := by
          unfold netBad
          rw [hbc]
          show (match badAt (Dt.isFace cds.length) fds with
            | some i => some (("face" : Str), i)
            | none => none) = _
          rw [badAt_none fun j d e => hgf j d (by
            have := (List.getElem?_eq_some_iff.mp e).1
            omega) e]
        have s12 := s1.trans s2
        have ha2 := ha0.same s12
        have hb2 := hb0.same s12
        walk_at "go"
        refine g_seqSeq ha2 fun J wJ => ?_
        intro D hD
        have q2 := (hxs.same mk_same).same s12
        refine lcA wJ hD (fun H' k y => ∃ d, cds[k]? = some d ∧ Dq (delH H' D) y (cornerD d)) (by omega) (fun H4 s4 => ha2.stay s4) (fun H4 H5 k y bt z => ?_) (fun i y H4 H4' hi s4 hD4 y' Kt kt => ?_) (fun H4 zs s4 hZ hzl hzs => ?_) ?_
        · obtain ⟨d, e, q⟩ := z
          exact ⟨d, e, q.same (but_same bt)⟩
        · obtain ⟨rfl, hy⟩ := y'
          obtain ⟨d, hd, qd⟩ := DqAll.at q2 hy
          have qd := qd.same s4
          have hcd := hg i d (by omega) hd
          cases qd with
          | @tup a1 vs1 ds1 ha1 hd1 =>
            rw [isCorner_tup] at hcd
            obtain ⟨h3, hall⟩ := Bool.and_eq_true_iff.mp hcd
            match ds1, hd1, of_decide_eq_true h3, hall with
            | [d1, d2, d3], .cons (v := w1) p1 (.cons (v := w2) p2 (.cons (v := w3) p3 .nil)), _, hall =>
              simp only [List.all_cons, List.all_nil, Bool.and_true, Bool.and_eq_true] at hall
              obtain ⟨q1, n1, e1⟩ := num_nm p1 hall.1
              obtain ⟨q2, n2, e2⟩ := num_nm p2 hall.2.1
              obtain ⟨q3, n3, e3⟩ := num_nm p3 hall.2.2
              refine ⟨a1, _, rfl, SqT.of ha1, rfl, w1, _, rfl, w2, _, rfl, w3, _, rfl, rfl, rfl, ?_⟩
              walk_at "go"
              rename_i t1 H5 s5 h5 t2 H6 s6 h6 t3 H7 s7 h7 t nt
              have hDn : ∃ acc, (upd H7 t (.tup [.ref t1, .ref t2, .ref t3])) D = some (.lst acc) := by
                obtain ⟨acc, e⟩ := hD4
                exact ⟨acc, same_new nt _ _ (s7 _ _ (s6 _ _ (s5 _ _ e)))⟩
              refine kt _ _ (((s5.trans s6).trans s7).trans (same_new nt)) ⟨_, hd, ?_⟩
              show Dq _ _ (.tup [pairD d1, pairD d2, pairD d3])
              rw [e1, e2, e3]
              have htD : t ≠ D := by
                obtain ⟨acc, e⟩ := hDn
                intro z
                rw [z, upd_same] at e
                cases e
              exact .tup (mk_at upd_same htD) (.cons (pq_del (same_new nt _ _ (s7 _ _ (s6 _ _ h5))) hDn) (.cons (pq_del (same_new nt _ _ (s7 _ _ h6)) hDn) (.cons (pq_del (same_new nt _ _ h7) hDn) .nil)))
          | _ => cases hcd
        · have s14 := s12.trans s4
          have hZx : D ≠ x := by
            intro z
            rw [z, s12 _ _ hx] at hD
            cases hD
          have hdz : DqAll (delH H4 D) zs (cds.map cornerD) := dqAll_of (by rw [List.length_map]; omega) fun k v e => by
            obtain ⟨d, e1, q⟩ := hzs k v e
            exact ⟨_, by rw [List.getElem?_map, e1]; rfl, q⟩
          walk_at "go"
          refine g_tupA (.inl hZ) fun ta H5 s5 _ hta => ?_
          have s15 := s14.trans s5
          walk_at "go"
          refine ⟨x, CN, dx, [], rfl, s15 _ _ hx, cl, nC, by decide, ?_⟩
          have hxa : x ≠ ta := ne_of (s15 _ _ hx) hta (by intro z; cases z)
          have hx6 : upd H5 x (.ins CN dx (putF "corners" (.ref ta) [])) x = some (.ins CN dx [("corners", .ref ta)]) := upd_same
          have d56 : delH (upd H5 x (.ins CN dx (putF "corners" (.ref ta) []))) x = delH H5 x := del_upd
          generalize upd H5 x (.ins CN dx (putF "corners" (.ref ta) [])) = H6 at hx6 d56
          have sd6 : Same (delH H x) (delH H6 x) := by
            rw [d56]
            exact mk_mono s15
          walk_at "go"
          refine g_tupA ((hb.same sd6).same mk_same) fun tb H7 s7 _ htb => ?_
          walk_at "go"
          have hx7 := s7 _ _ hx6
          refine ⟨x, CN, dx, _, rfl, hx7, cl, nF, by show 1 < 1000; decide, ?_⟩
          have d78 : delH (upd H7 x (.ins CN dx (putF "faces" (.ref tb) [("corners", .ref ta)]))) x = delH H7 x := del_upd
          have hxb : tb ≠ x := ne_of htb hx7 (by intro z; cases z)
          have sd7 : Same (delH H6 x) (delH H7 x) := mk_mono s7
          refine kq hbn _ ta tb (by rw [d78]; exact sd6.trans sd7) upd_same ?_ ?_
          · rw [d78]
            refine Dq.same sd7 ?_
            rw [d56]
            refine .tup (mk_at hta hxa.symm) ?_
            exact ((hdz.same mk_same).same s5).del (s15 _ _ hx) (fun _ z => by cases z) (fun _ z => by cases z)
          · rw [d78]
            exact .tup (mk_at htb hxb) ((hys.same sd6).same sd7)
        · intro y σ H R R' h q
          obtain ⟨a, xs, e1, e2, e3, v, r, e4, v2, r2, e5, v3, r3, e6, e7, q⟩ := q
          exact ⟨a, xs, e1, e2, e3, v, r, e4, v2, r2, e5, v3, r3, e6, e7, h _ _ q⟩
end
end Ko


namespace Ko
open PySem L2 PySem.Spec PyProof.Rows Xm
open C8 (pss_cut tCut)
def C3 (i j : Int) : Prop := j = 3 ∧ i.natAbs < 1329227995784915872903807060280344576
theorem op_pow3 {X : Cx} : OpR X (binaryOp .Pow) (rI C3 fun i j => .int (i ^ j.toNat)) := opI fun i j _ _ _ _ _ hc q => by
  obtain ⟨rfl, h⟩ := hc
  refine pow_int (by decide) ?_ q
  have hb : Builtin.Int.intBits i ≤ i.natAbs.log2 + 1 := by
    unfold Builtin.Int.intBits
    split <;> omega
  have h2 : i.natAbs.log2 ≤ 120 := by
    by_cases z : i.natAbs = 0
    · rw [z]
      decide
    · have := (Nat.log2_lt z (k := 121)).mpr (Nat.lt_of_lt_of_le h (by decide))
      omega
  omega
theorem mul40 {a b : Int} (ha : a.natAbs < 10000000000000000000000000000000000000000) (hb : b.natAbs < 10000000000000000000000000000000000000000) : CMulW a b := by
  have h1 : (10000000000000000000000000000000000000000 : Nat) ≤ 2 ^ 140 := by decide
  have h2 : (2 : Nat) ^ 140 ≤ 2 ^ 4400 := Nat.pow_le_pow_right (by decide) (by decide)
  exact sz_mul (Nat.lt_of_lt_of_le ha (Nat.le_trans h1 h2)) (Nat.lt_of_lt_of_le hb (Nat.le_trans h1 h2))
theorem div30 {a m : Int} (h0 : 0 < m) (h1 : m < 1073741824) : CDivW a m := wide_div (b := 30) h0 (by omega) (by decide) (by decide)
/-- a number from 0 up, below m; the bag is a bag still, with a draw less -/
def spDraw : Sp := fun vs H Q _ => ∃ (N : Nat) (b c : Addr) (m : Int), vs = [.ref b, .int m] ∧ 0 < m ∧ m < 1073741824 ∧ 1 ≤ N ∧ Bag N H b c ∧ ∀ i H', 0 ≤ i → i < m → Kp (N - 1) b c H H' → Q (.int i) H'
/-- the bag is written -/
theorem put_bag {M : Nat} {Qn : Hp → Prop} {H0 H : Hp} {b cs : Addr} {ns : List Int} {at_ gr sd ct : Int} {L : List V} (k : ∀ a o, a ≠ b → H0 a = some o → H a = some o) (hc : cs ≠ b) (h2 : H cs = some (.lst (ns.map V.int)))
    (e : L = [.ref cs, .int at_, .int gr, .int sd, .int ct]) (a0 : 0 ≤ at_) (g0 : 0 ≤ gr) (s0 : 0 ≤ sd) (s1 : sd < 18446744073709551557) (c0 : 0 ≤ ct) (c1 : ct + M ≤ 1000000000000000000)
    (q : ∀ H1 : Hp, H1 b = some (.lst [.ref cs, .int at_, .int gr, .int sd, .int ct]) → H1 cs = some (.lst (ns.map V.int)) → (∀ a o, a ≠ b → H0 a = some o → H1 a = some o) → Kp M b cs H0 H1 → Qn H1) : Qn (upd H b (.lst L)) := by
  subst e
  have e1 : upd H b (.lst [.ref cs, .int at_, .int gr, .int sd, .int ct]) b = some (.lst [.ref cs, .int at_, .int gr, .int sd, .int ct]) := upd_same
  have e2 : upd H b (.lst [.ref cs, .int at_, .int gr, .int sd, .int ct]) cs = some (.lst (ns.map V.int)) := by
    rw [upd_ne hc]
    exact h2
  have k1 : ∀ a o, a ≠ b → H0 a = some o → upd H b (.lst [.ref cs, .int at_, .int gr, .int sd, .int ct]) a = some o := fun a o h x => by
    rw [upd_ne h]
    exact k a o h x
  exact q _ e1 e2 k1 ⟨k1, hc, ns, at_, gr, sd, ct, e1, e2, a0, g0, s0, s1, c0, c1⟩
theorem dec_zero {i : Int} : decide (V.int i = V.int 0) = decide (i = 0) := by
  by_cases h : i = 0
  · subst h
    rfl
  · rw [decide_eq_false h, decide_eq_false (fun z => h (V.int.inj z))]

local macro_rules | `(tactic| walk_at "hpS") => `(tactic| with_reducible first
  | exact Same.refl _
  | assumption
  | (refine' Same.trans ?hq (same_new (by assumption)); (case hq => walk_at "hpS"))
  | (refine' Same.trans ?hq (by assumption); (case hq => walk_at "hpS"))
  | fail)
local macro_rules | `(tactic| walk_at "hpH") => `(tactic| with_reducible first
  | assumption
  | exact upd_same
  | (refine' same_at (same_new (by assumption)) ?hq; (case hq => walk_at "hpH"))
  | (refine' same_at (by assumption) ?hq; (case hq => walk_at "hpH"))
  | fail)
local macro_rules | `(tactic| walk_at "hpTo") => `(tactic| with_reducible first
  | assumption
  | (refine' sq_t (same_new (by assumption)) ?hq; (case hq => walk_at "hpTo"))
  | (refine' sq_t (by assumption) ?hq; (case hq => walk_at "hpTo"))
  | fail)
local macro_rules | `(tactic| walk_at "hpT") => `(tactic| with_reducible first
  | (refine' SqT.of ?hq; (case hq => walk_at "hpH"))
  | walk_at "hpTo"
  | fail)
local macro_rules | `(tactic| walk_at "hpLo") => `(tactic| with_reducible first
  | assumption
  | (refine' sq_l (same_new (by assumption)) ?hq; (case hq => walk_at "hpLo"))
  | (refine' sq_l (by assumption) ?hq; (case hq => walk_at "hpLo"))
  | fail)
local macro_rules | `(tactic| walk_at "hpL") => `(tactic| with_reducible first
  | (refine' SqL.of ?hq; (case hq => walk_at "hpH"))
  | walk_at "hpLo"
  | fail)
local macro_rules | `(tactic| walk_at "kit") => `(tactic| with_reducible first
  | exact kit_int_bool | exact kit_int_int | exact kit_int_tuple | exact kit_int_list | exact kit_int_str
  | exact kit_tuple_tuple | exact kit_tuple_int | exact kit_tuple_bool | exact kit_tuple_list | exact kit_tuple_str
  | exact kit_bool_bool | exact kit_bool_int | exact kit_bool_tuple | exact kit_bool_list | exact kit_bool_str
  | exact kit_str_str | exact kit_str_int | exact kit_str_bool | exact kit_str_tuple | exact kit_str_list
  | exact kit_NoneType_int | exact kit_NoneType_bool | exact kit_NoneType_tuple | exact kit_NoneType_list | exact kit_NoneType_str
  | exact kit_list_list | exact kit_list_tuple | exact kit_list_int | exact kit_list_bool | exact kit_list_str
  | fail)
local macro_rules | `(tactic| walk_at "call") => `(tactic| fail)
local macro_rules | `(tactic| walk_at "s0") => `(tactic| with_reducible first
  | refine g_seq ?_ | refine g_asg ?_ | refine g_name ?_ | refine g_ifS ?_ | refine g_ret ?_ | refine g_retN ?_ | refine g_next ?_
  | refine g_par ?_ | refine g_parE ?_ | refine g_drop ?_
  | refine g_c ?_ | refine g_op ?_ | refine g_un ?_ | refine g_cb ?_ | refine g_call ?_ | refine g_nil ?_ | refine g_cons ?_ | refine g_tup ?_ | refine g_lst ?_
  | refine g_test ?_ | refine g_B ?_ | refine g_blF ?_ | refine g_and ?_ | refine g_or ?_ | refine g_not ?_ | refine g_andV ?_ | refine g_orV ?_ | refine g_notV ?_ | refine g_if ?_
  | refine iteT ?_ | refine iteF ?_
  | refine g_chain ?_ | refine g_sl ?_ | refine g_noPart ?_ | refine g_part ?_ | refine g_partI ?_ | refine g_slS ?_ ?side | refine g_M1 ?_ | refine g_M1s ?_ | refine g_starts ?_ | refine g_bm ?_ | refine g_bm0 ?_ | refine g_tyS ?_
  | refine g_Fs ?_ | refine g_JsN ?_ | refine g_JsC ?_ | refine g_JsE ?_ ?side | refine g_fmt ?_ | refine g_fmtI ?_ ?side | refine g_fmtS ?_ ?side | refine g_iList ?_ | refine g_iTup ?_ | refine g_iStr ?_ | refine g_iStrE ?_ | refine g_iRng1 ?_ | refine g_iRng1E ?_ ?side1 ?side2 | refine g_yes ?_ | refine g_ckw ?_ | refine g_dget ?_ | refine g_dictZip ?_ | refine g_gCons ?_ | refine g_gNil ?_ | refine g_revL ?_ | refine g_for ?_ | refine g_lc ?_ | refine g_addS ?_ ?side | refine g_str ?_ ?side | refine g_lenS ?_ ?side
  | refine g_rI0 ?_ | refine g_rI ?_ ?side | refine g_rU ?_ | refine g_abs ?_ | refine g_int ?_ | refine g_intB ?_ | refine g_gcd ?_ | refine g_inS ?_ | refine g_isN0 ?_ | refine g_notN0 ?_
  | fail)
local macro_rules | `(tactic| walk_at "s1") => `(tactic| first
  | ((with_reducible refine' g_var ?h ?_); (case h => exact rfl))
  | ((with_reducible refine' g_new ?h ?_); (case h => exact (by simp only [List.length_cons, List.length_nil]; decide)); intro tnew htnew)
  | ((with_reducible refine' iteDT ?h ?_); (case h => first | exact rfl | assumption))
  | ((with_reducible refine' iteNT ?h ?_); (case h => first | exact rfl | assumption))
  | ((with_reducible refine' iteDF ?h ?_); (case h => first | assumption | (intro z; cases z)))
  | ((with_reducible refine' iteNF ?h ?_); (case h => first | assumption | (intro z; cases z)))
  | ((with_reducible refine' g_eq ?_ ?h); (case h => exact rfl))
  | ((with_reducible refine' g_ne ?_ ?h); (case h => exact rfl))
  | ((with_reducible refine' g_ixT ?_ ?h ?e); (case h => walk_at "hpT"); (case e => first | exact rfl | exact atI_0 | exact atI_1))
  | ((with_reducible refine' g_ixL ?_ ?h ?e); (case h => walk_at "hpL"); (case e => first | exact rfl | exact atI_0 | exact atI_1))
  | ((with_reducible refine' g_isi_int ?_ ?h); (case h => walk_at "kit"))
  | ((with_reducible refine' g_isi_str ?_ ?h); (case h => walk_at "kit"))
  | ((with_reducible refine' g_isi_bl ?_ ?h); (case h => walk_at "kit"))
  | ((with_reducible refine' g_isi_non ?_ ?h); (case h => walk_at "kit"))
  | ((with_reducible refine' g_isi_t ?_ ?t ?h); (case t => walk_at "hpT"); (case h => walk_at "kit"))
  | ((with_reducible refine' g_isi_l ?_ ?t ?h ?l); (case l => walk_at "hpH"); (case t => walk_at "hpL"); (case h => walk_at "kit"))
  | ((with_reducible refine' g_lenT ?_ ?h); (case h => walk_at "hpT"))
  | ((with_reducible refine' g_lenL ?_ ?h); (case h => walk_at "hpL"))
  | ((with_reducible refine' g_split ?_ ?h ?side); (case h => exact rfl); intro pnew hpnew)
  | ((with_reducible refine' g_slL ?h ?_); (case h => walk_at "hpL"); intro pnew hpnew)
  | ((with_reducible refine' g_iListE ?_ ?h); (case h => walk_at "hpL"))
  | ((with_reducible refine' g_iTupE ?_ ?h); (case h => walk_at "hpT"))
  | ((with_reducible refine' g_tyL ?_ ?h); (case h => walk_at "hpL"))
  | ((with_reducible refine' g_join ?_ ?h ?side); (case h => walk_at "hpL"))
  | ((with_reducible refine' g_append ?_ ?h ?side); (case h => walk_at "hpH"))
  | ((with_reducible refine' g_all ?_ ?h); (case h => walk_at "hpL"))
  | ((with_reducible refine' g_gTup ?_ ?h ?n); (case h => walk_at "hpT"); (case n => exact rfl))
  | ((with_reducible refine' g_revLE ?h ?_); (case h => walk_at "hpL"); intro pnew hpnew)
  | ((with_reducible refine' g_isN1 ?_ ?h); (case h => first | assumption | (intro z; cases z)))
  | ((with_reducible refine' g_notN1 ?_ ?h); (case h => first | assumption | (intro z; cases z)))
  | walk_at "call"
  | ((with_reducible refine' iteBT ?h ?_); (case h => first | assumption | exact rfl))
  | ((with_reducible refine' iteBF ?h ?_); (case h => first | assumption | exact rfl))
  | fail)
local macro_rules | `(tactic| walk_at "nrm") => `(tactic| simp only [Bool.not_true, Bool.not_false, decide_eq_true_eq, decide_true, decide_false, Bool.true_and, Bool.false_and, Bool.and_true, Bool.and_false, V.int.injEq, V.bl.injEq, V.str.injEq, List.length_cons, List.length_nil, Bool.not_eq_true', decide_eq_false_iff_not, Int.not_lt, Int.not_le, reduceCtorEq, not_false_eq_true, not_true_eq_false, Decidable.not_not] at *)
local macro_rules | `(tactic| walk_at "sp") => `(tactic| ((with_reducible refine ite2 (fun c => ?_) (fun c => ?_)) <;> (try simp only [decide_eq_true_eq, Bool.not_eq_true', decide_eq_false_iff_not, V.int.injEq, V.bl.injEq, V.str.injEq, Int.not_lt, Int.not_le, reduceCtorEq, Decidable.not_not, Bool.false_eq_true, Bool.true_eq_false] at c) <;> (try (exfalso; omega))))
local macro_rules | `(tactic| walk_at "s") => `(tactic| first | walk_at "s0" | walk_at "s1" | fail)
local macro_rules | `(tactic| walk_at "go") => `(tactic| (try dsimp only [cxK, cxK']); repeat' walk_at "s")
local macro_rules | `(tactic| walk_at "gos") => `(tactic| ((try dsimp only [cxK, cxK']); repeat' (first | walk_at "s" | walk_at "sp" | fail)))

local macro_rules | `(tactic| walk_at "hpNo") => `(tactic| with_reducible first
  | assumption
  | (refine' Nm.ofPr ?hq; (case hq => assumption))
  | (refine' Nm.same (same_new (by assumption)) ?hq; (case hq => walk_at "hpNo"))
  | (refine' Nm.same (by assumption) ?hq; (case hq => walk_at "hpNo"))
  | fail)
local macro_rules | `(tactic| walk_at "hpN") => `(tactic| with_reducible first
  | walk_at "hpNo"
  | (refine' Nm.of ?hq; (case hq => walk_at "hpH"))
  | fail)
local macro_rules | `(tactic| walk_at "hpPo") => `(tactic| with_reducible first
  | assumption
  | (refine' Pr.same (same_new (by assumption)) ?hq; (case hq => walk_at "hpPo"))
  | (refine' Pr.same (by assumption) ?hq; (case hq => walk_at "hpPo"))
  | fail)
local macro_rules | `(tactic| walk_at "hpP") => `(tactic| with_reducible first
  | walk_at "hpPo"
  | (refine' Pr.of ?hq; (case hq => walk_at "hpH"))
  | fail)
local macro_rules | `(tactic| walk_at "hpDo") => `(tactic| with_reducible first
  | assumption
  | exact Dq.int _ | exact Dq.bl _ | exact Dq.str _ | exact Dq.non
  | (refine' Dq.same (same_new (by assumption)) ?hq; (case hq => walk_at "hpDo"))
  | (refine' Dq.same (by assumption) ?hq; (case hq => walk_at "hpDo"))
  | fail)
local macro_rules | `(tactic| walk_at "hpD") => `(tactic| with_reducible first
  | walk_at "hpDo"
  | fail)

section
variable {P : Program} {w : World} {K : PySem.W.Frag} {mg : Str → Option Value} {base : Heap} {f : Addr} {fd : FuncData}
theorem ok_draw (F : Fun K "_law_draw" "_law_draw" s_l_draw f fd) (T : Blt mg) : FnOk P w K mg base CX0 1 f fd ["_law_bag_here", "_law_many_y"] spDraw := by
  refine F.ok sc_l_draw (fun vs H Q E h => ?_) (fun cdv A outer s H vs Q E hr h => ?_)
  · obtain ⟨N, b, c, m, rfl, _⟩ := h
    rfl
  · obtain ⟨N, b, cs, m, rfl, m0, m1, hN, B0, q⟩ := h
    obtain ⟨hne, ns, at_, gr, sd, ct, hb, hcs, a0, g0, s0, s1, c0, c1⟩ := B0
    have k0 : ∀ a o, a ≠ b → H a = some o → H a = some o := fun _ _ _ e => e
    refine ⟨_, (pss_cons (ps_asg (pe_op op_add (pe_ix (ix_seqK K) (pv 0) pe_int (fun _ _ => rfl)) pe_int) (pg_sub (pv 0) pe_int set_list))
      (pss_cut (ps_if (PW.pt (pw_and (pt_cmpR op_eq (pe_ix (ix_seqK K) (pv 0) pe_int (fun _ _ => rfl)) pe_int (nomark _)) (pw_and1 (pt_cmpR op_lt (pe_ix (ix_seqK K) (pv 0) pe_int (fun _ _ => rfl)) (pe_callB (cg_lenK K) (by rfl) T.n_len (by decide +kernel) (pa_cons (pe_ix (ix_seqK K) (pv 0) pe_int (fun _ _ => rfl)) pa_nil)) (nomark _)))))
      (pss_cons (ps_set (i := 2) sc_l_draw.nd rfl (.inl rfl) (pe_callTy cg_int (by rfl) T.n_int (by decide +kernel) (pa_cons (pe_ix (ix_seqK K) (pe_ix (ix_seqK K) (pv 0) pe_int (fun _ _ => rfl)) (pe_ix (ix_seqK K) (pv 0) pe_int (fun _ _ => rfl)) (fun _ _ => rfl)) pa_nil)))
      (pss_cons (ps_asg (pe_op op_add (pe_ix (ix_seqK K) (pv 0) pe_int (fun _ _ => rfl)) pe_int) (pg_sub (pv 0) pe_int set_list))
      (pss_one (ps_if (pt_cmpR op_ge (pv 2) (pe_op op_pow pe_int pe_int) (nomark _))
      (pss_one (ps_asg (pv 2) (pg_sub (pv 0) pe_int set_list))) (pss_one (ps_asg (pe_op op_mod (pe_callTy cg_int (by rfl) T.n_int (by decide +kernel) (pa_cons (pe_op op_pow3 (pe_op op_add (pe_op op_add (pe_ix (ix_seqK K) (pv 0) pe_int (fun _ _ => rfl)) (pe_op op_mulW (pe_op op_mod (pe_callTy cg_int (by rfl) T.n_int (by decide +kernel) (pa_cons (pv 2) pa_nil)) pe_int) pe_int)) pe_int) pe_int) pa_nil)) pe_int) (pg_sub (pv 0) pe_int set_list))))))) pss_nil)
      (pss_cons (ps_if (pt_cmpR op_gt (pe_ix (ix_seqK K) (pv 0) pe_int (fun _ _ => rfl)) pe_int (nomark _))
      (pss_cons (ps_set (i := 3) sc_l_draw.nd rfl (.inl rfl) (pe_op op_mod (pe_callTy cg_int (by rfl) T.n_int (by decide +kernel) (pa_cons (pe_ix (ix_seqK K) (pv 0) pe_int (fun _ _ => rfl)) pa_nil)) (pv 1)))
      (pss_cons (ps_asg (pe_op op_fdivW (pe_callTy cg_int (by rfl) T.n_int (by decide +kernel) (pa_cons (pe_ix (ix_seqK K) (pv 0) pe_int (fun _ _ => rfl)) pa_nil)) (pv 1)) (pg_sub (pv 0) pe_int set_list))
      (pss_one (ps_ret (pv 3))))) pss_nil)
      (pss_cons (ps_asg (pe_op op_mod (pe_callTy cg_int (by rfl) T.n_int (by decide +kernel) (pa_cons (pe_op op_pow3 (pe_op op_add (pe_op op_add (pe_ix (ix_seqK K) (pv 0) pe_int (fun _ _ => rfl)) (pe_op op_mulW (pe_ix (ix_seqK K) (pv 0) pe_int (fun _ _ => rfl)) pe_int)) pe_int) pe_int) pa_nil)) pe_int) (pg_sub (pv 0) pe_int set_list))
      (pss_one (ps_ret (pe_op op_mod (pe_callTy cg_int (by rfl) T.n_int (by decide +kernel) (pa_cons (pe_op op_fdivW (pe_ix (ix_seqK K) (pv 0) pe_int (fun _ _ => rfl)) pe_int) pa_nil)) (pv 1)))))))), ?_⟩
    walk_at "go"
    refine ⟨_, rfl, b, _, 4, 4, rfl, rfl, hb, rfl, ?_⟩
    refine put_bag (M := N - 1) (at_ := at_) (gr := gr) (sd := sd) (ct := ct + 1) k0 hne hcs rfl a0 g0 s0 s1 (by omega) (by omega) fun H1 h1 cs1 k1 p1 => ?_
    walk_at "go"
    refine ⟨fun σ' H' => (∃ x2, σ' = [some (.ref b), some (.int m), x2, none]) ∧ Kp (N - 1) b cs H H', ?_, ?_⟩
    · walk_at "go"
      rw [dec_zero]
      refine ite2 (fun cc => ?_) (fun cc => iteF ⟨⟨none, rfl⟩, p1⟩)
      walk_at "go"
      refine ite2 (fun c2 => ?_) (fun c2 => ⟨⟨none, rfl⟩, p1⟩)
      have lt : at_ < ((ns.map V.int).length : Int) := of_decide_eq_true c2
      rw [List.length_map] at lt
      obtain ⟨z, hz⟩ : ∃ z, ns[at_.toNat]? = some z := ⟨_, List.getElem?_eq_getElem (by omega)⟩
      have hat : atI (ns.map V.int) at_ = some (V.int z) := by
        have e : at_ = ((at_.toNat : Nat) : Int) := by omega
        rw [e]
        refine atI_nat ?_
        rw [List.getElem?_map, hz]
        rfl
      walk_at "go"
      refine g_ixL ?_ (SqL.of cs1) hat
      walk_at "go"
      refine ⟨_, rfl, b, _, 1, 1, rfl, rfl, h1, rfl, ?_⟩
      refine put_bag (M := N - 1) (at_ := at_ + 1) (gr := gr) (sd := sd) (ct := ct + 1) k1 hne cs1 rfl (by omega) g0 s0 s1 (by omega) (by omega) fun H2 h2 cs2 k2 p2 => ?_
      walk_at "go"
      all_goals try exact ⟨by decide, by decide, by decide⟩
      refine ite2 (fun c3 => ?_) (fun c3 => ?_)
      · have big : (10 : Int) ^ (18 : Int).toNat ≤ z := of_decide_eq_true c3
        have pos : (0 : Int) ≤ 10 ^ (18 : Int).toNat := by decide
        walk_at "go"
        refine ⟨_, rfl, b, _, 2, 2, rfl, rfl, h2, rfl, ?_⟩
        refine put_bag (M := N - 1) (at_ := at_ + 1) (gr := z) (sd := sd) (ct := ct + 1) k2 hne cs2 rfl (by omega) (by omega) s0 s1 (by omega) (by omega) fun H3 h3 cs3 k3 p3 => ?_
        exact ⟨⟨_, rfl⟩, p3⟩
      · have y0 := Int.emod_nonneg z (b := 18446744073709551557) (by decide)
        have y1 := Int.emod_lt_of_pos z (b := 18446744073709551557) (by decide)
        walk_at "go"
        all_goals first
          | exact mul40 (by omega) (by omega)
          | (show (0 : Int) < 18446744073709551557; decide)
          | exact ⟨rfl, by omega⟩
          | skip
        refine ⟨_, rfl, b, _, 3, 3, rfl, rfl, h2, rfl, ?_⟩
        refine put_bag (M := N - 1) (at_ := at_ + 1) (gr := gr) (ct := ct + 1) k2 hne cs2 rfl (by omega) g0 (Int.emod_nonneg _ (by decide)) (Int.emod_lt_of_pos _ (by decide)) (by omega) (by omega) fun H3 h3 cs3 k3 p3 => ?_
        exact ⟨⟨_, rfl⟩, p3⟩
    · rintro σ' H2 ⟨⟨x2, rfl⟩, k2⟩
      obtain ⟨hne, ns, at_, gr, sd, ct, h2, cs2, a0, g0, s0, s1, c0, c1⟩ := k2.2
      have k2' := k2.1
      walk_at "go"
      refine ite2 (fun cc => ?_) (fun cc => ?_)
      · have pos : 0 < gr := of_decide_eq_true cc
        walk_at "go"
        all_goals first
          | exact m0
          | exact div30 m0 m1
          | skip
        refine ⟨_, rfl, b, _, 2, 2, rfl, rfl, h2, rfl, ?_⟩
        refine put_bag (M := N - 1) (at_ := at_) (gr := gr / m) (sd := sd) (ct := ct) k2' hne cs2 rfl a0 (Int.ediv_nonneg g0 (by omega)) s0 s1 c0 c1 fun H3 h3 cs3 k3 p3 => ?_
        walk_at "go"
        exact q _ _ (Int.emod_nonneg _ (by omega)) (Int.emod_lt_of_pos _ m0) p3
      · walk_at "go"
        all_goals first
          | exact mul40 (by omega) (by omega)
          | (show (0 : Int) < 18446744073709551557; decide)
          | exact ⟨rfl, by omega⟩
          | skip
        refine ⟨_, rfl, b, _, 3, 3, rfl, rfl, h2, rfl, ?_⟩
        have e0 := Int.emod_nonneg ((sd + ct * 1000003 + 31) ^ (3 : Int).toNat) (b := 18446744073709551557) (by decide)
        have e1 := Int.emod_lt_of_pos ((sd + ct * 1000003 + 31) ^ (3 : Int).toNat) (b := 18446744073709551557) (by decide)
        refine put_bag (M := N - 1) (at_ := at_) (gr := gr) (ct := ct) k2' hne cs2 rfl a0 g0 e0 e1 c0 c1 fun H3 h3 cs3 k3 p3 => ?_
        generalize (sd + ct * 1000003 + 31) ^ (3 : Int).toNat % 18446744073709551557 = sq at h3
        walk_at "go"
        all_goals first
          | exact m0
          | exact ⟨by decide, by decide⟩
          | skip
        exact q _ _ (Int.emod_nonneg _ (by omega)) (Int.emod_lt_of_pos _ m0) p3
end
/-- a new bag -/
def spBag (K : PySem.W.Frag) : Sp := fun vs H Q _ => ∃ (a : Addr) (ns : List Int), vs = [.ref a] ∧ SqL K H a (ns.map V.int) ∧ ∀ b c H', Same H H' → H b = none → H c = none → Bag 1000000000000000000 H' b c → Q (.ref b) H'
theorem cutV_ints (ns : List Int) (lo hi : Option Int) : ∃ ms : List Int, cutV (ns.map V.int) lo hi = ms.map V.int := by
  refine ⟨(ns.drop (HT.sIx ns.length 0 lo)).take (HT.sIx ns.length ns.length hi - HT.sIx ns.length 0 lo), ?_⟩
  unfold cutV
  rw [List.length_map, List.map_take, List.map_drop]
section
variable {P : Program} {w : World} {K : Fg} {mg : Str → Option Value} {base : Heap} {f : Addr} {fd : FuncData}
theorem ok_bag (F : Fun K "_law_bag" "_law_bag" s_l_bag f fd) (T : Blt mg) : FnOk P w K mg base CX0 1 f fd ["_law_script"] (spBag K) := by
  refine F.ok sc_l_bag (fun vs H Q E h => ?_) (fun cdv A outer s H vs Q E hr h => ?_)
  · obtain ⟨a, ns, rfl, _⟩ := h
    rfl
  · obtain ⟨a, ns, rfl, hS, q⟩ := h
    refine ⟨_, (pss_cons (ps_set (i := 1) sc_l_bag.nd rfl (.inl rfl) pe_int)
      (pss_cons (ps_for PassesOwn.never rfl (pi_list (pe_slice sl_list (pv 0) po_none (po_some pe_int))) (pg_name (i := 2) sc_l_bag.nd rfl (.inl rfl))
      (pss_one (ps_set (i := 1) sc_l_bag.nd rfl (.inl rfl) (pe_op op_mod (pe_callTy cg_int (by rfl) T.n_int (by decide +kernel) (pa_cons (pe_op op_pow3 (pe_op op_add (pe_op op_add (pv 1) (pe_op op_mod (pe_callTy cg_int (by rfl) T.n_int (by decide +kernel) (pa_cons (pv 2) pa_nil)) pe_int)) pe_int) pe_int) pa_nil)) pe_int))))
      (pss_one (ps_ret (pe_lst (pa_cons (pe_callTy (cg_listOf K) (by rfl) T.n_list (by decide +kernel) (pa_cons (pe_slice sl_list (pv 0) po_none (po_some pe_int)) pa_nil)) (pa_cons pe_int (pa_cons pe_int (pa_cons (pv 1) (pa_cons pe_int pa_nil)))))))))), ?_⟩
    walk_at "go"
    rename_i p hp
    obtain ⟨ms, hms⟩ := cutV_ints ns none (some 63)
    have s1 := same_new (o := .lst (cutV (ns.map V.int) none (some 63))) hp
    have hpl : upd H p (.lst (cutV (ns.map V.int) none (some 63))) p = some (.lst (ms.map V.int)) := by
      rw [upd_same, hms]
    generalize upd H p (.lst (cutV (ns.map V.int) none (some 63))) = H1 at s1 hpl
    refine for_list (K := K) (a := p) (xs := ms.map V.int)
      (fun i σ H' => ∃ sd v, σ = [some (.ref a), some (.int sd), v] ∧ 0 ≤ sd ∧ sd < 18446744073709551557 ∧ H' = H1)
      ⟨13963, none, rfl, by decide, by decide, rfl⟩ (fun i σ H' _ h => ?_) ?_ ?_
    · obtain ⟨sd, v, _, _, _, e⟩ := h
      rw [e]
      exact SqL.of hpl
    · rintro i x σ H2 hx ⟨sd, v, rfl, s0, s2, rfl⟩
      obtain ⟨z, rfl⟩ : ∃ z, x = V.int z := by
        obtain ⟨z, _, e⟩ := List.mem_map.mp (List.mem_of_getElem? hx)
        exact ⟨z, e.symm⟩
      have y0 := Int.emod_nonneg z (b := 18446744073709551557) (by decide)
      have y1 := Int.emod_lt_of_pos z (b := 18446744073709551557) (by decide)
      walk_at "go"
      all_goals first
        | (show (0 : Int) < 18446744073709551557; decide)
        | exact ⟨rfl, by omega⟩
        | skip
      exact ⟨_, _, rfl, Int.emod_nonneg _ (by decide), Int.emod_lt_of_pos _ (by decide), rfl⟩
    · rintro σ H2 ⟨sd, v, rfl, s0, s2, rfl⟩
      walk_at "go"
      rename_i p2 np2
      refine ⟨p2, _, rfl, .inl (SqL.of upd_same), fun l nl => ?_⟩
      walk_at "go"
      rename_i b nb
      have hlb : l ≠ b := ne_of_none upd_same nb
      have s3 := ((s1.trans (same_new (o := .lst (cutV (ns.map V.int) none (some 63))) np2)).trans (same_new (o := .lst (cutV (ns.map V.int) none (some 63))) nl)).trans (same_new (o := .lst [.ref l, .int 0, .int 0, .int sd, .int 0]) nb)
      have fr : ∀ {x : Addr} {Hx : Hp}, Hx x = none → Same H Hx → H x = none := fun {x Hx} n s => s.free n
      refine q b l _ s3 (fr nb ((s1.trans (same_new np2)).trans (same_new nl))) (fr nl (s1.trans (same_new np2))) ⟨hlb, ms, 0, 0, sd, 0, upd_same, ?_, by decide, by decide, s0, s2, by decide, by decide⟩
      rw [upd_ne hlb, upd_same, hms]
end
section
variable {N : Nat} {H : Hp} {Q : VK} {E : XK} {b c : Addr}
theorem sp_draw {m : Int} (k : ∀ i H', 0 ≤ i → i < m → Same (delH H b) (delH H' b) → Bag (N - 1) H' b c → Q (.int i) H') (B : Bag N H b c) (h0 : 0 < m) (h1 : m < 1073741824) (hN : 1 ≤ N) : spDraw [.ref b, .int m] H Q E :=
  ⟨N, b, c, m, rfl, h0, h1, hN, B, fun i H' i0 i1 k2 => k i H' i0 i1 (mk_kp k2) k2.2⟩
/-- one of the things -/
def spOf : Sp := fun vs H Q _ => ∃ (N : Nat) (b c l : Addr) (xs : List V), vs = [.ref b, .ref l] ∧ Bag N H b c ∧ 1 ≤ N ∧ delH H b l = some (.lst xs) ∧ 0 < xs.length ∧ xs.length < 1000 ∧ ∀ (i : Nat) x H', xs[i]? = some x → Same (delH H b) (delH H' b) → Bag (N - 1) H' b c → Q x H'
theorem sp_of {l : Addr} {xs : List V} (h : delH H b l = some (.lst xs)) (B : Bag N H b c) (hN : 1 ≤ N) (h0 : 0 < xs.length) (h1 : xs.length < 1000) (k : ∀ (i : Nat) x H', xs[i]? = some x → Same (delH H b) (delH H' b) → Bag (N - 1) H' b c → Q x H') : spOf [.ref b, .ref l] H Q E :=
  ⟨N, b, c, l, xs, rfl, B, hN, h, h0, h1, k⟩
end

local macro_rules | `(tactic| walk_at "hpS") => `(tactic| with_reducible first
  | exact Same.refl _
  | assumption
  | (refine' Same.trans ?hq (same_new (by assumption)); (case hq => walk_at "hpS"))
  | (refine' Same.trans ?hq (by assumption); (case hq => walk_at "hpS"))
  | fail)
local macro_rules | `(tactic| walk_at "hpH") => `(tactic| with_reducible first
  | assumption
  | exact upd_same
  | (refine' same_at (same_new (by assumption)) ?hq; (case hq => walk_at "hpH"))
  | (refine' same_at (by assumption) ?hq; (case hq => walk_at "hpH"))
  | fail)
local macro_rules | `(tactic| walk_at "hpTo") => `(tactic| with_reducible first
  | assumption
  | (refine' sq_t (same_new (by assumption)) ?hq; (case hq => walk_at "hpTo"))
  | (refine' sq_t (by assumption) ?hq; (case hq => walk_at "hpTo"))
  | fail)
local macro_rules | `(tactic| walk_at "hpT") => `(tactic| with_reducible first
  | (refine' SqT.of ?hq; (case hq => walk_at "hpH"))
  | walk_at "hpTo"
  | fail)
local macro_rules | `(tactic| walk_at "hpLo") => `(tactic| with_reducible first
  | assumption
  | (refine' sq_l (same_new (by assumption)) ?hq; (case hq => walk_at "hpLo"))
  | (refine' sq_l (by assumption) ?hq; (case hq => walk_at "hpLo"))
  | fail)
local macro_rules | `(tactic| walk_at "hpL") => `(tactic| with_reducible first
  | (refine' SqL.of ?hq; (case hq => walk_at "hpH"))
  | walk_at "hpLo"
  | fail)
local macro_rules | `(tactic| walk_at "kit") => `(tactic| with_reducible first
  | exact kit_int_bool | exact kit_int_int | exact kit_int_tuple | exact kit_int_list | exact kit_int_str
  | exact kit_tuple_tuple | exact kit_tuple_int | exact kit_tuple_bool | exact kit_tuple_list | exact kit_tuple_str
  | exact kit_bool_bool | exact kit_bool_int | exact kit_bool_tuple | exact kit_bool_list | exact kit_bool_str
  | exact kit_str_str | exact kit_str_int | exact kit_str_bool | exact kit_str_tuple | exact kit_str_list
  | exact kit_NoneType_int | exact kit_NoneType_bool | exact kit_NoneType_tuple | exact kit_NoneType_list | exact kit_NoneType_str
  | exact kit_list_list | exact kit_list_tuple | exact kit_list_int | exact kit_list_bool | exact kit_list_str
  | fail)
local macro_rules | `(tactic| walk_at "call") => `(tactic| fail)
local macro_rules | `(tactic| walk_at "s0") => `(tactic| with_reducible first
  | refine g_seq ?_ | refine g_asg ?_ | refine g_name ?_ | refine g_ifS ?_ | refine g_ret ?_ | refine g_retN ?_ | refine g_next ?_
  | refine g_par ?_ | refine g_parE ?_ | refine g_drop ?_
  | refine g_c ?_ | refine g_op ?_ | refine g_un ?_ | refine g_cb ?_ | refine g_call ?_ | refine g_nil ?_ | refine g_cons ?_ | refine g_tup ?_ | refine g_lst ?_
  | refine g_test ?_ | refine g_B ?_ | refine g_blF ?_ | refine g_and ?_ | refine g_or ?_ | refine g_not ?_ | refine g_andV ?_ | refine g_orV ?_ | refine g_notV ?_ | refine g_if ?_
  | refine iteT ?_ | refine iteF ?_
  | refine g_chain ?_ | refine g_sl ?_ | refine g_noPart ?_ | refine g_part ?_ | refine g_partI ?_ | refine g_slS ?_ ?side | refine g_M1 ?_ | refine g_M1s ?_ | refine g_starts ?_ | refine g_bm ?_ | refine g_bm0 ?_ | refine g_tyS ?_
  | refine g_Fs ?_ | refine g_JsN ?_ | refine g_JsC ?_ | refine g_JsE ?_ ?side | refine g_fmt ?_ | refine g_fmtI ?_ ?side | refine g_fmtS ?_ ?side | refine g_iList ?_ | refine g_iTup ?_ | refine g_iStr ?_ | refine g_iStrE ?_ | refine g_iRng1 ?_ | refine g_iRng1E ?_ ?side1 ?side2 | refine g_yes ?_ | refine g_ckw ?_ | refine g_dget ?_ | refine g_dictZip ?_ | refine g_gCons ?_ | refine g_gNil ?_ | refine g_revL ?_ | refine g_for ?_ | refine g_lc ?_ | refine g_addS ?_ ?side | refine g_str ?_ ?side | refine g_lenS ?_ ?side
  | refine g_rI0 ?_ | refine g_rI ?_ ?side | refine g_rU ?_ | refine g_abs ?_ | refine g_int ?_ | refine g_intB ?_ | refine g_gcd ?_ | refine g_inS ?_ | refine g_isN0 ?_ | refine g_notN0 ?_
  | fail)
local macro_rules | `(tactic| walk_at "s1") => `(tactic| first
  | ((with_reducible refine' g_var ?h ?_); (case h => exact rfl))
  | ((with_reducible refine' g_new ?h ?_); (case h => exact (by simp only [List.length_cons, List.length_nil]; decide)); intro tnew htnew)
  | ((with_reducible refine' iteDT ?h ?_); (case h => first | exact rfl | assumption))
  | ((with_reducible refine' iteNT ?h ?_); (case h => first | exact rfl | assumption))
  | ((with_reducible refine' iteDF ?h ?_); (case h => first | assumption | (intro z; cases z)))
  | ((with_reducible refine' iteNF ?h ?_); (case h => first | assumption | (intro z; cases z)))
  | ((with_reducible refine' g_eq ?_ ?h); (case h => exact rfl))
  | ((with_reducible refine' g_ne ?_ ?h); (case h => exact rfl))
  | ((with_reducible refine' g_ixT ?_ ?h ?e); (case h => walk_at "hpT"); (case e => first | exact rfl | exact atI_0 | exact atI_1))
  | ((with_reducible refine' g_ixL ?_ ?h ?e); (case h => walk_at "hpL"); (case e => first | exact rfl | exact atI_0 | exact atI_1))
  | ((with_reducible refine' g_isi_int ?_ ?h); (case h => walk_at "kit"))
  | ((with_reducible refine' g_isi_str ?_ ?h); (case h => walk_at "kit"))
  | ((with_reducible refine' g_isi_bl ?_ ?h); (case h => walk_at "kit"))
  | ((with_reducible refine' g_isi_non ?_ ?h); (case h => walk_at "kit"))
  | ((with_reducible refine' g_isi_t ?_ ?t ?h); (case t => walk_at "hpT"); (case h => walk_at "kit"))
  | ((with_reducible refine' g_isi_l ?_ ?t ?h ?l); (case l => walk_at "hpH"); (case t => walk_at "hpL"); (case h => walk_at "kit"))
  | ((with_reducible refine' g_lenT ?_ ?h); (case h => walk_at "hpT"))
  | ((with_reducible refine' g_lenL ?_ ?h); (case h => walk_at "hpL"))
  | ((with_reducible refine' g_split ?_ ?h ?side); (case h => exact rfl); intro pnew hpnew)
  | ((with_reducible refine' g_slL ?h ?_); (case h => walk_at "hpL"); intro pnew hpnew)
  | ((with_reducible refine' g_iListE ?_ ?h); (case h => walk_at "hpL"))
  | ((with_reducible refine' g_iTupE ?_ ?h); (case h => walk_at "hpT"))
  | ((with_reducible refine' g_tyL ?_ ?h); (case h => walk_at "hpL"))
  | ((with_reducible refine' g_join ?_ ?h ?side); (case h => walk_at "hpL"))
  | ((with_reducible refine' g_append ?_ ?h ?side); (case h => walk_at "hpH"))
  | ((with_reducible refine' g_all ?_ ?h); (case h => walk_at "hpL"))
  | ((with_reducible refine' g_gTup ?_ ?h ?n); (case h => walk_at "hpT"); (case n => exact rfl))
  | ((with_reducible refine' g_revLE ?h ?_); (case h => walk_at "hpL"); intro pnew hpnew)
  | ((with_reducible refine' g_isN1 ?_ ?h); (case h => first | assumption | (intro z; cases z)))
  | ((with_reducible refine' g_notN1 ?_ ?h); (case h => first | assumption | (intro z; cases z)))
  | walk_at "call"
  | ((with_reducible refine' iteBT ?h ?_); (case h => first | assumption | exact rfl))
  | ((with_reducible refine' iteBF ?h ?_); (case h => first | assumption | exact rfl))
  | fail)
local macro_rules | `(tactic| walk_at "nrm") => `(tactic| simp only [Bool.not_true, Bool.not_false, decide_eq_true_eq, decide_true, decide_false, Bool.true_and, Bool.false_and, Bool.and_true, Bool.and_false, V.int.injEq, V.bl.injEq, V.str.injEq, List.length_cons, List.length_nil, Bool.not_eq_true', decide_eq_false_iff_not, Int.not_lt, Int.not_le, reduceCtorEq, not_false_eq_true, not_true_eq_false, Decidable.not_not] at *)
local macro_rules | `(tactic| walk_at "sp") => `(tactic| ((with_reducible refine ite2 (fun c => ?_) (fun c => ?_)) <;> (try simp only [decide_eq_true_eq, Bool.not_eq_true', decide_eq_false_iff_not, V.int.injEq, V.bl.injEq, V.str.injEq, Int.not_lt, Int.not_le, reduceCtorEq, Decidable.not_not, Bool.false_eq_true, Bool.true_eq_false] at c) <;> (try (exfalso; omega))))
local macro_rules | `(tactic| walk_at "s") => `(tactic| first | walk_at "s0" | walk_at "s1" | fail)
local macro_rules | `(tactic| walk_at "go") => `(tactic| (try dsimp only [cxK, cxK']); repeat' walk_at "s")
local macro_rules | `(tactic| walk_at "gos") => `(tactic| ((try dsimp only [cxK, cxK']); repeat' (first | walk_at "s" | walk_at "sp" | fail)))

local macro_rules | `(tactic| walk_at "hpNo") => `(tactic| with_reducible first
  | assumption
  | (refine' Nm.ofPr ?hq; (case hq => assumption))
  | (refine' Nm.same (same_new (by assumption)) ?hq; (case hq => walk_at "hpNo"))
  | (refine' Nm.same (by assumption) ?hq; (case hq => walk_at "hpNo"))
  | fail)
local macro_rules | `(tactic| walk_at "hpN") => `(tactic| with_reducible first
  | walk_at "hpNo"
  | (refine' Nm.of ?hq; (case hq => walk_at "hpH"))
  | fail)
local macro_rules | `(tactic| walk_at "hpPo") => `(tactic| with_reducible first
  | assumption
  | (refine' Pr.same (same_new (by assumption)) ?hq; (case hq => walk_at "hpPo"))
  | (refine' Pr.same (by assumption) ?hq; (case hq => walk_at "hpPo"))
  | fail)
local macro_rules | `(tactic| walk_at "hpP") => `(tactic| with_reducible first
  | walk_at "hpPo"
  | (refine' Pr.of ?hq; (case hq => walk_at "hpH"))
  | fail)
local macro_rules | `(tactic| walk_at "hpDo") => `(tactic| with_reducible first
  | assumption
  | exact Dq.int _ | exact Dq.bl _ | exact Dq.str _ | exact Dq.non
  | (refine' Dq.same (same_new (by assumption)) ?hq; (case hq => walk_at "hpDo"))
  | (refine' Dq.same (by assumption) ?hq; (case hq => walk_at "hpDo"))
  | fail)
local macro_rules | `(tactic| walk_at "hpD") => `(tactic| with_reducible first
  | walk_at "hpDo"
  | fail)

local macro_rules | `(tactic| walk_at "hpM") => `(tactic| with_reducible first
  | assumption
  | (refine' mk_new ?hn ?hB; (case hn => assumption); (case hB => walk_at "hpB"))
  | (refine' mk_tup ?hn ?hB; (case hn => assumption); (case hB => walk_at "hpB"))
  | (refine' same_at (mk_upd (by assumption)) ?hq; (case hq => walk_at "hpM"))
  | (refine' same_at (show Same (delH _ _) (delH _ _) by assumption) ?hq; (case hq => walk_at "hpM"))
  | (refine' same_at (mk_mono (by assumption)) ?hq; (case hq => walk_at "hpM"))
  | fail)
local macro_rules | `(tactic| walk_at "hpSM") => `(tactic| with_reducible first
  | exact Same.refl _
  | assumption
  | (refine' Same.trans ?hq (mk_upd (by assumption)); (case hq => walk_at "hpSM"))
  | (refine' Same.trans ?hq (show Same (delH _ _) (delH _ _) by assumption); (case hq => walk_at "hpSM"))
  | (refine' Same.trans ?hq (mk_mono (by assumption)); (case hq => walk_at "hpSM"))
  | fail)
local macro_rules | `(tactic| walk_at "hpB") => `(tactic| with_reducible first
  | assumption
  | (refine' bag_upd ?hq (by assumption); (case hq => walk_at "hpB"))
  | (refine' bag_same ?hq (by assumption); (case hq => walk_at "hpB"))
  | fail)
local macro_rules | `(tactic| walk_at "hpHo") => `(tactic| with_reducible first
  | assumption
  | exact upd_same
  | (refine' same_at (same_new (by assumption)) ?hq; (case hq => walk_at "hpHo"))
  | (refine' same_at (by assumption) ?hq; (case hq => walk_at "hpHo"))
  | fail)
local macro_rules | `(tactic| walk_at "hpH") => `(tactic| with_reducible first
  | walk_at "hpHo"
  | (refine' same_at mk_same ?hq; (case hq => walk_at "hpM"))
  | fail)
local macro_rules | `(tactic| walk_at "hpNo") => `(tactic| with_reducible first
  | assumption
  | (refine' Nm.ofPr ?hq; (case hq => assumption))
  | (refine' Nm.same (same_new (by assumption)) ?hq; (case hq => walk_at "hpNo"))
  | (refine' Nm.same (by assumption) ?hq; (case hq => walk_at "hpNo"))
  | fail)
local macro_rules | `(tactic| walk_at "hpNMo") => `(tactic| with_reducible first
  | assumption
  | (refine' Nm.ofPr ?hq; (case hq => assumption))
  | (refine' Nm.same (mk_upd (by assumption)) ?hq; (case hq => walk_at "hpNMo"))
  | (refine' Nm.same (show Same (delH _ _) (delH _ _) by assumption) ?hq; (case hq => walk_at "hpNMo"))
  | (refine' Nm.same (mk_mono (by assumption)) ?hq; (case hq => walk_at "hpNMo"))
  | fail)
local macro_rules | `(tactic| walk_at "hpNM") => `(tactic| with_reducible first
  | walk_at "hpNMo"
  | (refine' Nm.of ?hq; (case hq => walk_at "hpM"))
  | fail)
local macro_rules | `(tactic| walk_at "hpN") => `(tactic| with_reducible first
  | walk_at "hpNo"
  | (refine' Nm.same mk_same ?hq; (case hq => walk_at "hpNMo"))
  | (refine' Nm.of ?hq; (case hq => walk_at "hpH"))
  | fail)
local macro_rules | `(tactic| walk_at "hpPo") => `(tactic| with_reducible first
  | assumption
  | (refine' Pr.same (same_new (by assumption)) ?hq; (case hq => walk_at "hpPo"))
  | (refine' Pr.same (by assumption) ?hq; (case hq => walk_at "hpPo"))
  | fail)
local macro_rules | `(tactic| walk_at "hpPMo") => `(tactic| with_reducible first
  | assumption
  | (refine' Pr.same (mk_upd (by assumption)) ?hq; (case hq => walk_at "hpPMo"))
  | (refine' Pr.same (show Same (delH _ _) (delH _ _) by assumption) ?hq; (case hq => walk_at "hpPMo"))
  | (refine' Pr.same (mk_mono (by assumption)) ?hq; (case hq => walk_at "hpPMo"))
  | fail)
local macro_rules | `(tactic| walk_at "hpPM") => `(tactic| with_reducible first
  | walk_at "hpPMo"
  | (refine' Pr.of ?hq; (case hq => walk_at "hpM"))
  | fail)
local macro_rules | `(tactic| walk_at "hpP") => `(tactic| with_reducible first
  | walk_at "hpPo"
  | (refine' Pr.same mk_same ?hq; (case hq => walk_at "hpPMo"))
  | (refine' Pr.of ?hq; (case hq => walk_at "hpH"))
  | fail)
local macro_rules | `(tactic| walk_at "hpDo") => `(tactic| with_reducible first
  | assumption
  | exact Dq.int _ | exact Dq.bl _ | exact Dq.str _ | exact Dq.non
  | (refine' Dq.same (same_new (by assumption)) ?hq; (case hq => walk_at "hpDo"))
  | (refine' Dq.same (by assumption) ?hq; (case hq => walk_at "hpDo"))
  | fail)
local macro_rules | `(tactic| walk_at "hpDMo") => `(tactic| with_reducible first
  | assumption
  | exact Dq.int _ | exact Dq.bl _ | exact Dq.str _ | exact Dq.non
  | (refine' Dq.same (mk_upd (by assumption)) ?hq; (case hq => walk_at "hpDMo"))
  | (refine' Dq.same (show Same (delH _ _) (delH _ _) by assumption) ?hq; (case hq => walk_at "hpDMo"))
  | (refine' Dq.same (mk_mono (by assumption)) ?hq; (case hq => walk_at "hpDMo"))
  | fail)
local macro_rules | `(tactic| walk_at "hpDM") => `(tactic| with_reducible first
  | walk_at "hpDMo"
  | fail)
local macro_rules | `(tactic| walk_at "hpD") => `(tactic| with_reducible first
  | walk_at "hpDo"
  | (refine' Dq.same mk_same ?hq; (case hq => walk_at "hpDMo"))
  | fail)
local macro_rules | `(tactic| walk_at "call") => `(tactic| first
  | ((with_reducible refine' sp_draw ?_ ?h ?side1 ?side2); (case h => walk_at "hpB"); intro idraw Hd' hi0 hi1 sd' bd')
  | fail)

local macro_rules | `(tactic| walk_at "call") => `(tactic| first
  | ((with_reducible refine' sp_draw ?_ ?h ?side1 ?side2 ?side3); (case h => walk_at "hpB"); intro idraw Hd' hi0 hi1 sd' bd')
  | fail)
section
variable {P : Program} {w : World} {K : Fg} {mg : Str → Option Value} {base : Heap} {f f1 : Addr} {fd : FuncData}
theorem ok_of (F : Fun K "_law_of" "_law_of" s_l_of f fd) (T : Blt mg) (D_l_draw : Df P w K mg base 1 "_law_draw" f1 ["_law_bag_here", "_law_many_y"] spDraw) : FnOk P w K mg base CX0 2 f fd ["_law_bag_here", "_law_things"] spOf := by
  obtain ⟨_, G_l_draw, B_l_draw⟩ := D_l_draw.ok
  refine F.ok sc_l_of (fun vs H Q E h => ?_) (fun cdv A outer s H vs Q E hr h => ?_)
  · obtain ⟨N, b, c, l, xs, rfl, _⟩ := h
    rfl
  · obtain ⟨N, b, c, l, xs, rfl, B, hN, hl, h0, h1, k⟩ := h
    refine ⟨_, (pss_one (ps_ret (pe_ix (ix_seqK K) (pv 1) (pe_call G_l_draw (hr.mono (by decide)) (by rfl) D_l_draw.g D_l_draw.kp B_l_draw .nil pass0 (pa_cons (pv 0) (pa_cons (pe_callB (cg_lenK K) (by rfl) T.n_len (by decide +kernel) (pa_cons (pv 1) pa_nil)) pa_nil))) (fun _ _ => rfl)))), ?_⟩
    walk_at "go"
    all_goals first
      | omega
      | skip
    rename_i i H' i0 i1 s2 B2
    obtain ⟨x, hx⟩ : ∃ x, xs[i.toNat]? = some x := ⟨_, List.getElem?_eq_getElem (by omega)⟩
    have e : i = ((i.toNat : Nat) : Int) := by omega
    refine g_ixL ?_ (SqL.of (mk_same _ _ (s2 _ _ hl))) (by rw [e]; exact atI_nat hx)
    exact k _ x H' hx s2 B2
end
end Ko


namespace Ko
open PySem L2 PySem.Spec PyProof.Rows Xm
section
variable {H : Hp} {Q : VK} {E : XK} {x y : V} {d : Dt} {n : Nat}
theorem sp_like (hx : Dq H x d) (hy : Dq H y d) (o : Dt.ok n d) (k : ∀ H', Same H H' → Q (.bl true) H') : spLike n [x, y] H Q E := ⟨x, y, d, rfl, hx, hy, o, k⟩
theorem g_eqS {x : V} (q : Q (.bl true) H) (h : scal x x = true) : rEq x x H Q := ⟨h, by rw [decide_eq_true rfl]; exact q⟩
theorem DqAll.at2 {H : Hp} {vs : List V} {ds : List Dt} {i : Nat} {v : V} {d : Dt} (h : DqAll H vs ds) (e : vs[i]? = some v) (e2 : ds[i]? = some d) : Dq H v d := by
  obtain ⟨d', e3, q⟩ := h.at e
  rw [e2] at e3
  cases e3
  exact q
end

local macro_rules | `(tactic| walk_at "hpS") => `(tactic| with_reducible first
  | exact Same.refl _
  | assumption
  | (refine' Same.trans ?hq (same_new (by assumption)); (case hq => walk_at "hpS"))
  | (refine' Same.trans ?hq (by assumption); (case hq => walk_at "hpS"))
  | fail)
local macro_rules | `(tactic| walk_at "hpH") => `(tactic| with_reducible first
  | assumption
  | exact upd_same
  | (refine' same_at (same_new (by assumption)) ?hq; (case hq => walk_at "hpH"))
  | (refine' same_at (by assumption) ?hq; (case hq => walk_at "hpH"))
  | fail)
local macro_rules | `(tactic| walk_at "hpTo") => `(tactic| with_reducible first
  | assumption
  | (refine' sq_t (same_new (by assumption)) ?hq; (case hq => walk_at "hpTo"))
  | (refine' sq_t (by assumption) ?hq; (case hq => walk_at "hpTo"))
  | fail)
local macro_rules | `(tactic| walk_at "hpT") => `(tactic| with_reducible first
  | (refine' SqT.of ?hq; (case hq => walk_at "hpH"))
  | walk_at "hpTo"
  | fail)
local macro_rules | `(tactic| walk_at "hpLo") => `(tactic| with_reducible first
  | assumption
  | (refine' sq_l (same_new (by assumption)) ?hq; (case hq => walk_at "hpLo"))
  | (refine' sq_l (by assumption) ?hq; (case hq => walk_at "hpLo"))
  | fail)
local macro_rules | `(tactic| walk_at "hpL") => `(tactic| with_reducible first
  | (refine' SqL.of ?hq; (case hq => walk_at "hpH"))
  | walk_at "hpLo"
  | fail)
local macro_rules | `(tactic| walk_at "kit") => `(tactic| with_reducible first
  | exact kit_int_bool | exact kit_int_int | exact kit_int_tuple | exact kit_int_list | exact kit_int_str
  | exact kit_tuple_tuple | exact kit_tuple_int | exact kit_tuple_bool | exact kit_tuple_list | exact kit_tuple_str
  | exact kit_bool_bool | exact kit_bool_int | exact kit_bool_tuple | exact kit_bool_list | exact kit_bool_str
  | exact kit_str_str | exact kit_str_int | exact kit_str_bool | exact kit_str_tuple | exact kit_str_list
  | exact kit_NoneType_int | exact kit_NoneType_bool | exact kit_NoneType_tuple | exact kit_NoneType_list | exact kit_NoneType_str
  | exact kit_list_list | exact kit_list_tuple | exact kit_list_int | exact kit_list_bool | exact kit_list_str
  | fail)
local macro_rules | `(tactic| walk_at "call") => `(tactic| fail)
local macro_rules | `(tactic| walk_at "s0") => `(tactic| with_reducible first
  | refine g_seq ?_ | refine g_asg ?_ | refine g_name ?_ | refine g_ifS ?_ | refine g_ret ?_ | refine g_retN ?_ | refine g_next ?_
  | refine g_par ?_ | refine g_parE ?_ | refine g_drop ?_
  | refine g_c ?_ | refine g_op ?_ | refine g_un ?_ | refine g_cb ?_ | refine g_call ?_ | refine g_nil ?_ | refine g_cons ?_ | refine g_tup ?_ | refine g_lst ?_
  | refine g_test ?_ | refine g_B ?_ | refine g_blF ?_ | refine g_and ?_ | refine g_or ?_ | refine g_not ?_ | refine g_andV ?_ | refine g_orV ?_ | refine g_notV ?_ | refine g_if ?_
  | refine iteT ?_ | refine iteF ?_
  | refine g_chain ?_ | refine g_sl ?_ | refine g_noPart ?_ | refine g_part ?_ | refine g_partI ?_ | refine g_slS ?_ ?side | refine g_M1 ?_ | refine g_M1s ?_ | refine g_starts ?_ | refine g_bm ?_ | refine g_bm0 ?_ | refine g_tyS ?_
  | refine g_Fs ?_ | refine g_JsN ?_ | refine g_JsC ?_ | refine g_JsE ?_ ?side | refine g_fmt ?_ | refine g_fmtI ?_ ?side | refine g_fmtS ?_ ?side | refine g_iList ?_ | refine g_iTup ?_ | refine g_iStr ?_ | refine g_iStrE ?_ | refine g_iRng1 ?_ | refine g_iRng1E ?_ ?side1 ?side2 | refine g_yes ?_ | refine g_ckw ?_ | refine g_dget ?_ | refine g_dictZip ?_ | refine g_gCons ?_ | refine g_gNil ?_ | refine g_revL ?_ | refine g_for ?_ | refine g_lc ?_ | refine g_addS ?_ ?side | refine g_str ?_ ?side | refine g_lenS ?_ ?side
  | refine g_rI0 ?_ | refine g_rI ?_ ?side | refine g_rU ?_ | refine g_abs ?_ | refine g_int ?_ | refine g_intB ?_ | refine g_gcd ?_ | refine g_inS ?_ | refine g_isN0 ?_ | refine g_notN0 ?_
  | fail)
local macro_rules | `(tactic| walk_at "s1") => `(tactic| first
  | ((with_reducible refine' g_var ?h ?_); (case h => exact rfl))
  | ((with_reducible refine' g_new ?h ?_); (case h => exact (by simp only [List.length_cons, List.length_nil]; decide)); intro tnew htnew)
  | ((with_reducible refine' iteDT ?h ?_); (case h => first | exact rfl | assumption))
  | ((with_reducible refine' iteNT ?h ?_); (case h => first | exact rfl | assumption))
  | ((with_reducible refine' iteDF ?h ?_); (case h => first | assumption | (intro z; cases z)))
  | ((with_reducible refine' iteNF ?h ?_); (case h => first | assumption | (intro z; cases z)))
  | ((with_reducible refine' g_eq ?_ ?h); (case h => exact rfl))
  | ((with_reducible refine' g_ne ?_ ?h); (case h => exact rfl))
  | ((with_reducible refine' g_ixT ?_ ?h ?e); (case h => walk_at "hpT"); (case e => first | exact rfl | exact atI_0 | exact atI_1))
  | ((with_reducible refine' g_ixL ?_ ?h ?e); (case h => walk_at "hpL"); (case e => first | exact rfl | exact atI_0 | exact atI_1))
  | ((with_reducible refine' g_isi_int ?_ ?h); (case h => walk_at "kit"))
  | ((with_reducible refine' g_isi_str ?_ ?h); (case h => walk_at "kit"))
  | ((with_reducible refine' g_isi_bl ?_ ?h); (case h => walk_at "kit"))
  | ((with_reducible refine' g_isi_non ?_ ?h); (case h => walk_at "kit"))
  | ((with_reducible refine' g_isi_t ?_ ?t ?h); (case t => walk_at "hpT"); (case h => walk_at "kit"))
  | ((with_reducible refine' g_isi_l ?_ ?t ?h ?l); (case l => walk_at "hpH"); (case t => walk_at "hpL"); (case h => walk_at "kit"))
  | ((with_reducible refine' g_lenT ?_ ?h); (case h => walk_at "hpT"))
  | ((with_reducible refine' g_lenL ?_ ?h); (case h => walk_at "hpL"))
  | ((with_reducible refine' g_split ?_ ?h ?side); (case h => exact rfl); intro pnew hpnew)
  | ((with_reducible refine' g_slL ?h ?_); (case h => walk_at "hpL"); intro pnew hpnew)
  | ((with_reducible refine' g_iListE ?_ ?h); (case h => walk_at "hpL"))
  | ((with_reducible refine' g_iTupE ?_ ?h); (case h => walk_at "hpT"))
  | ((with_reducible refine' g_tyL ?_ ?h); (case h => walk_at "hpL"))
  | ((with_reducible refine' g_join ?_ ?h ?side); (case h => walk_at "hpL"))
  | ((with_reducible refine' g_append ?_ ?h ?side); (case h => walk_at "hpH"))
  | ((with_reducible refine' g_all ?_ ?h); (case h => walk_at "hpL"))
  | ((with_reducible refine' g_gTup ?_ ?h ?n); (case h => walk_at "hpT"); (case n => exact rfl))
  | ((with_reducible refine' g_revLE ?h ?_); (case h => walk_at "hpL"); intro pnew hpnew)
  | ((with_reducible refine' g_isN1 ?_ ?h); (case h => first | assumption | (intro z; cases z)))
  | ((with_reducible refine' g_notN1 ?_ ?h); (case h => first | assumption | (intro z; cases z)))
  | walk_at "call"
  | ((with_reducible refine' iteBT ?h ?_); (case h => first | assumption | exact rfl))
  | ((with_reducible refine' iteBF ?h ?_); (case h => first | assumption | exact rfl))
  | fail)
local macro_rules | `(tactic| walk_at "nrm") => `(tactic| simp only [Bool.not_true, Bool.not_false, decide_eq_true_eq, decide_true, decide_false, Bool.true_and, Bool.false_and, Bool.and_true, Bool.and_false, V.int.injEq, V.bl.injEq, V.str.injEq, List.length_cons, List.length_nil, Bool.not_eq_true', decide_eq_false_iff_not, Int.not_lt, Int.not_le, reduceCtorEq, not_false_eq_true, not_true_eq_false, Decidable.not_not] at *)
local macro_rules | `(tactic| walk_at "sp") => `(tactic| ((with_reducible refine ite2 (fun c => ?_) (fun c => ?_)) <;> (try simp only [decide_eq_true_eq, Bool.not_eq_true', decide_eq_false_iff_not, V.int.injEq, V.bl.injEq, V.str.injEq, Int.not_lt, Int.not_le, reduceCtorEq, Decidable.not_not, Bool.false_eq_true, Bool.true_eq_false] at c) <;> (try (exfalso; omega))))
local macro_rules | `(tactic| walk_at "s") => `(tactic| first | walk_at "s0" | walk_at "s1" | fail)
local macro_rules | `(tactic| walk_at "go") => `(tactic| (try dsimp only [cxK, cxK']); repeat' walk_at "s")
local macro_rules | `(tactic| walk_at "gos") => `(tactic| ((try dsimp only [cxK, cxK']); repeat' (first | walk_at "s" | walk_at "sp" | fail)))

local macro_rules | `(tactic| walk_at "hpNo") => `(tactic| with_reducible first
  | assumption
  | (refine' Nm.ofPr ?hq; (case hq => assumption))
  | (refine' Nm.same (same_new (by assumption)) ?hq; (case hq => walk_at "hpNo"))
  | (refine' Nm.same (by assumption) ?hq; (case hq => walk_at "hpNo"))
  | fail)
local macro_rules | `(tactic| walk_at "hpN") => `(tactic| with_reducible first
  | walk_at "hpNo"
  | (refine' Nm.of ?hq; (case hq => walk_at "hpH"))
  | fail)
local macro_rules | `(tactic| walk_at "hpPo") => `(tactic| with_reducible first
  | assumption
  | (refine' Pr.same (same_new (by assumption)) ?hq; (case hq => walk_at "hpPo"))
  | (refine' Pr.same (by assumption) ?hq; (case hq => walk_at "hpPo"))
  | fail)
local macro_rules | `(tactic| walk_at "hpP") => `(tactic| with_reducible first
  | walk_at "hpPo"
  | (refine' Pr.of ?hq; (case hq => walk_at "hpH"))
  | fail)
local macro_rules | `(tactic| walk_at "hpDo") => `(tactic| with_reducible first
  | assumption
  | exact Dq.int _ | exact Dq.bl _ | exact Dq.str _ | exact Dq.non
  | (refine' Dq.same (same_new (by assumption)) ?hq; (case hq => walk_at "hpDo"))
  | (refine' Dq.same (by assumption) ?hq; (case hq => walk_at "hpDo"))
  | fail)
local macro_rules | `(tactic| walk_at "hpD") => `(tactic| with_reducible first
  | walk_at "hpDo"
  | fail)

local macro_rules | `(tactic| walk_at "call") => `(tactic| first
  | ((with_reducible refine' g_LT_int ?_ ?h); (case h => walk_at "hpH"))
  | ((with_reducible refine' g_LT_str ?_ ?h); (case h => walk_at "hpH"))
  | ((with_reducible refine' g_LT_bl ?_ ?h); (case h => walk_at "hpH"))
  | ((with_reducible refine' g_LT_non ?_ ?h); (case h => walk_at "hpH"))
  | ((with_reducible refine' g_LT_lst ?_ ?h ?a); (case a => walk_at "hpH"); (case h => walk_at "hpH"))
  | ((with_reducible refine' g_LT_tup ?_ ?h ?a); (case a => walk_at "hpH"); (case h => walk_at "hpH"))
  | (with_reducible refine' g_iZipA ?_)
  | fail)
section
variable {P : Program} {w : World} {K : Fg} {mg : Str → Option Value} {base : Heap} {f : Addr} {fd : FuncData}
theorem ok_like0 (F : Fun K "_law_same" "_law_same" s_l_same f fd) (T : Blt mg) : FnOk P w K mg base CX0 1 f fd ["_law_found", "_law_due"] (spLike 0) := by
  refine F.ok sc_l_same (fun vs H Q E h => ?_) (fun cdv A outer s H vs Q E hr h => ?_)
  · obtain ⟨x, y, d, rfl, _⟩ := h
    rfl
  · obtain ⟨x, y, d, rfl, hx, hy, ho, k⟩ := h
    refine ⟨_, (pss_cons (ps_if (pt_val (pe_callB (cg_isiTK K) (by rfl) T.n_isinstance (by decide +kernel) (pa_cons (pv 1) (pa_cons (pe_tup (pa_cons (pe_bltn (v := .ty "list") (by rfl) T.n_list (by decide +kernel) rfl) (pa_cons (pe_bltn (v := .ty "tuple") (by rfl) T.n_tuple (by decide +kernel) rfl) pa_nil))) pa_nil)))) pss_never pss_nil)
      (pss_cons (ps_if (PW.pt (pw_or (pt_cmpR og_isN (pv 1) pe_non (nomark _)) (pw_or1 (pt_cmpR og_isN (pv 0) pe_non (nomark _)))))
      (pss_one (ps_ret (pe_and (pe_cmpR og_isN (pv 1) pe_non (nomark _)) (pe_one (pe_cmpR og_isN (pv 0) pe_non (nomark _)))))) pss_nil)
      (pss_cons (ps_if (PW.pt (pw_or (pt_val (pe_callB (cg_isiTK K) (by rfl) T.n_isinstance (by decide +kernel) (pa_cons (pv 0) (pa_cons (pe_tup (pa_cons (pe_bltn (v := .ty "list") (by rfl) T.n_list (by decide +kernel) rfl) (pa_cons (pe_bltn (v := .ty "tuple") (by rfl) T.n_tuple (by decide +kernel) rfl) pa_nil))) pa_nil)))) (pw_or1 (pt_cmpR op_ne (pe_callB (cg_isiK K) (by rfl) T.n_isinstance (by decide +kernel) (pa_cons (pv 0) (pa_cons (pe_bltn (v := .ty "bool") (by rfl) T.n_bool (by decide +kernel) rfl) pa_nil))) (pe_callB (cg_isiK K) (by rfl) T.n_isinstance (by decide +kernel) (pa_cons (pv 1) (pa_cons (pe_bltn (v := .ty "bool") (by rfl) T.n_bool (by decide +kernel) rfl) pa_nil))) (nomark _)))))
      (pss_one (ps_ret pe_bl)) pss_nil)
      (pss_cons (ps_if (PW.pt (pw_or (pt_cmpR op_ne (pe_callB (cg_isiK K) (by rfl) T.n_isinstance (by decide +kernel) (pa_cons (pv 0) (pa_cons (pe_bltn (v := .ty "str") (by rfl) T.n_str (by decide +kernel) rfl) pa_nil))) (pe_callB (cg_isiK K) (by rfl) T.n_isinstance (by decide +kernel) (pa_cons (pv 1) (pa_cons (pe_bltn (v := .ty "str") (by rfl) T.n_str (by decide +kernel) rfl) pa_nil))) (nomark _)) (pw_or1 (pt_cmpR op_ne (pe_callB (cg_isiK K) (by rfl) T.n_isinstance (by decide +kernel) (pa_cons (pv 0) (pa_cons (pe_bltn (v := .ty "int") (by rfl) T.n_int (by decide +kernel) rfl) pa_nil))) (pe_callB (cg_isiK K) (by rfl) T.n_isinstance (by decide +kernel) (pa_cons (pv 1) (pa_cons (pe_bltn (v := .ty "int") (by rfl) T.n_int (by decide +kernel) rfl) pa_nil))) (nomark _)))))
      (pss_one (ps_ret pe_bl)) pss_nil)
      (pss_one (ps_ret (pe_cmpR op_eq (pv 0) (pv 1) (nomark _)))))))), ?_⟩
    cases hx with
    | int i =>
      cases hy
      walk_at "go"
      rw [decide_eq_true (rfl : V.int i = V.int i)]
      exact k _ (by walk_at "hpS")
    | bl i =>
      cases hy
      walk_at "go"
      rw [decide_eq_true (rfl : V.bl i = V.bl i)]
      exact k _ (by walk_at "hpS")
    | str i =>
      cases hy
      walk_at "go"
      rw [decide_eq_true (rfl : V.str i = V.str i)]
      exact k _ (by walk_at "hpS")
    | non =>
      cases hy
      walk_at "go"
      exact k _ (by walk_at "hpS")
    | _ => exact ho.elim
theorem ok_like {n m : Nat} (F : Fun K "_law_same" "_law_same" s_l_same f fd) (T : Blt mg) (D_l_same : Df P w K mg base m "_law_same" f ["_law_found", "_law_due"] (spLike n)) : FnOk P w K mg base CX0 (m + 1) f fd ["_law_found", "_law_due"] (spLike (n + 1)) := by
  obtain ⟨_, G_l_same, B_l_same⟩ := D_l_same.ok
  refine F.ok sc_l_same (fun vs H Q E h => ?_) (fun cdv A outer s H vs Q E hr h => ?_)
  · obtain ⟨x, y, d, rfl, _⟩ := h
    rfl
  · obtain ⟨x, y, d, rfl, hx, hy, ho, k⟩ := h
    refine ⟨_, (pss_cons (ps_if (pt_val (pe_callB (cg_isiTK K) (by rfl) T.n_isinstance (by decide +kernel) (pa_cons (pv 1) (pa_cons (pe_tup (pa_cons (pe_bltn (v := .ty "list") (by rfl) T.n_list (by decide +kernel) rfl) (pa_cons (pe_bltn (v := .ty "tuple") (by rfl) T.n_tuple (by decide +kernel) rfl) pa_nil))) pa_nil))))
      (pss_cons (ps_if (PW.pt (pw_or (pt_cmpR op_ne (pe_callB (cg_isiK K) (by rfl) T.n_isinstance (by decide +kernel) (pa_cons (pv 0) (pa_cons (pe_bltn (v := .ty "list") (by rfl) T.n_list (by decide +kernel) rfl) pa_nil))) (pe_callB (cg_isiK K) (by rfl) T.n_isinstance (by decide +kernel) (pa_cons (pv 1) (pa_cons (pe_bltn (v := .ty "list") (by rfl) T.n_list (by decide +kernel) rfl) pa_nil))) (nomark _)) (pw_or1 (pt_cmpR op_ne (pe_callB (cg_isiK K) (by rfl) T.n_isinstance (by decide +kernel) (pa_cons (pv 0) (pa_cons (pe_bltn (v := .ty "tuple") (by rfl) T.n_tuple (by decide +kernel) rfl) pa_nil))) (pe_callB (cg_isiK K) (by rfl) T.n_isinstance (by decide +kernel) (pa_cons (pv 1) (pa_cons (pe_bltn (v := .ty "tuple") (by rfl) T.n_tuple (by decide +kernel) rfl) pa_nil))) (nomark _)))))
      (pss_one (ps_ret pe_bl)) pss_nil)
      (pss_one (ps_ret (pe_and (pe_cmpR op_eq (pe_callB (cg_lenK K) (by rfl) T.n_len (by decide +kernel) (pa_cons (pv 0) pa_nil)) (pe_callB (cg_lenK K) (by rfl) T.n_len (by decide +kernel) (pa_cons (pv 1) pa_nil)) (nomark _)) (pe_one (pe_callB (cr_allK K rfl) (by rfl) T.n_all (by decide +kernel) (pa_cons (pe_lc (own := [("_law_part_a", 2), ("_law_part_b", 3)]) (g := gTup K 2 (gCons (gName 2) (gCons (gName 3) gNil))) (tt := tYes) rfl sc_l_same.nd (RZ.pi_zipA (by rfl) T.n_zip (pa_cons (pv 0) (pa_cons (pv 1) pa_nil))) (blkOk_by (N := ["_law_found", "_law_due", "_law_part_a", "_law_part_b"]) (sc := defScope s_l_same) (by decide +kernel)) (fun _ _ _ _ _ => by exact pg_tup rfl (pgs_cons (pg_name (i := 2) sc_l_same.nd rfl (.inl rfl) (.inr rfl)) (pgs_cons (pg_name (i := 3) sc_l_same.nd rfl (.inl rfl) (.inr rfl)) pgs_nil))) (fun _ _ _ _ _ => pts_nil) (fun _ _ _ _ _ => (pe_call G_l_same hr (by rfl) D_l_same.g D_l_same.kp B_l_same .nil pass0 (pa_cons (pv 2) (pa_cons (pv 3) pa_nil))))) pa_nil))))))) pss_nil)
      (pss_cons (ps_if (PW.pt (pw_or (pt_cmpR og_isN (pv 1) pe_non (nomark _)) (pw_or1 (pt_cmpR og_isN (pv 0) pe_non (nomark _)))))
      (pss_one (ps_ret (pe_and (pe_cmpR og_isN (pv 1) pe_non (nomark _)) (pe_one (pe_cmpR og_isN (pv 0) pe_non (nomark _)))))) pss_nil)
      (pss_cons (ps_if (PW.pt (pw_or (pt_val (pe_callB (cg_isiTK K) (by rfl) T.n_isinstance (by decide +kernel) (pa_cons (pv 0) (pa_cons (pe_tup (pa_cons (pe_bltn (v := .ty "list") (by rfl) T.n_list (by decide +kernel) rfl) (pa_cons (pe_bltn (v := .ty "tuple") (by rfl) T.n_tuple (by decide +kernel) rfl) pa_nil))) pa_nil)))) (pw_or1 (pt_cmpR op_ne (pe_callB (cg_isiK K) (by rfl) T.n_isinstance (by decide +kernel) (pa_cons (pv 0) (pa_cons (pe_bltn (v := .ty "bool") (by rfl) T.n_bool (by decide +kernel) rfl) pa_nil))) (pe_callB (cg_isiK K) (by rfl) T.n_isinstance (by decide +kernel) (pa_cons (pv 1) (pa_cons (pe_bltn (v := .ty "bool") (by rfl) T.n_bool (by decide +kernel) rfl) pa_nil))) (nomark _)))))
      (pss_one (ps_ret pe_bl)) pss_nil)
      (pss_cons (ps_if (PW.pt (pw_or (pt_cmpR op_ne (pe_callB (cg_isiK K) (by rfl) T.n_isinstance (by decide +kernel) (pa_cons (pv 0) (pa_cons (pe_bltn (v := .ty "str") (by rfl) T.n_str (by decide +kernel) rfl) pa_nil))) (pe_callB (cg_isiK K) (by rfl) T.n_isinstance (by decide +kernel) (pa_cons (pv 1) (pa_cons (pe_bltn (v := .ty "str") (by rfl) T.n_str (by decide +kernel) rfl) pa_nil))) (nomark _)) (pw_or1 (pt_cmpR op_ne (pe_callB (cg_isiK K) (by rfl) T.n_isinstance (by decide +kernel) (pa_cons (pv 0) (pa_cons (pe_bltn (v := .ty "int") (by rfl) T.n_int (by decide +kernel) rfl) pa_nil))) (pe_callB (cg_isiK K) (by rfl) T.n_isinstance (by decide +kernel) (pa_cons (pv 1) (pa_cons (pe_bltn (v := .ty "int") (by rfl) T.n_int (by decide +kernel) rfl) pa_nil))) (nomark _)))))
      (pss_one (ps_ret pe_bl)) pss_nil)
      (pss_one (ps_ret (pe_cmpR op_eq (pv 0) (pv 1) (nomark _)))))))), ?_⟩
    cases hx with
    | int i =>
      cases hy
      walk_at "go"
      rw [decide_eq_true (rfl : V.int i = V.int i)]
      exact k _ (by walk_at "hpS")
    | bl i =>
      cases hy
      walk_at "go"
      rw [decide_eq_true (rfl : V.bl i = V.bl i)]
      exact k _ (by walk_at "hpS")
    | str i =>
      cases hy
      walk_at "go"
      rw [decide_eq_true (rfl : V.str i = V.str i)]
      exact k _ (by walk_at "hpS")
    | non =>
      cases hy
      walk_at "go"
      exact k _ (by walk_at "hpS")
    | @lst a xs ds ha hd =>
      cases hy with
      | @lst b ys _ hb he =>
        have l1 := hd.length
        have l2 := he.length
        have lc : V.int (xs.length : Int) = V.int (ys.length : Int) := by rw [l1, l2]
        have hl := ho.1
        walk_at "go"
        refine ⟨_, _, xs, ys, rfl, .inl ⟨by walk_at "hpL", by walk_at "hpL", fun D hD => ?_⟩⟩
        rename_i tp ntp
        have s0 := same_new (o := .tup [V.ty "list", V.ty "tuple"]) ntp
        generalize upd H tp (.tup [V.ty "list", V.ty "tuple"]) = H1 at s0 hD
        refine lcV (walk_zip (K := K) (a := a) (b := b) (xs := xs) (ys := ys) (n := ds.length) (by rw [l1, l2, Nat.min_self])) hD (fun _ => .bl true) (by omega) (fun H2 s => ⟨SqL.of (s _ _ (s0 _ _ ha)), SqL.of (s _ _ (s0 _ _ hb))⟩) (fun i y H2 H2' hi s y' Kt kt => ?_) (fun H' s hH => ?_) gm_pair
        · obtain ⟨t, x1, x2, rfl, nt, rfl, g1, g2⟩ := y'
          have hdi : ds[i]? = some ds[i] := List.getElem?_eq_getElem hi
          have q1 := (DqAll.at2 hd g1 hdi).same ((s0.trans s).trans (same_new (o := .tup [x1, x2]) nt))
          have q2 := (DqAll.at2 he g2 hdi).same ((s0.trans s).trans (same_new (o := .tup [x1, x2]) nt))
          refine g_wipe2 (SqT.of upd_same) rfl ?_
          walk_at "go"
          refine sp_like q1 q2 (ho.2 _ (List.getElem_mem hi)) fun H5 s5 => ?_
          exact kt _ ((same_new nt).trans s5)
        · walk_at "go"
          refine g_all (bs := List.replicate ds.length true) ?_ (SqL.of ?_)
          · have e : (List.replicate ds.length true).all id = true := by simp
            rw [e]
            exact k _ (s0.trans s)
          · rw [hH, List.map_replicate]
            exact congrArg (fun z => some (HO.lst z)) (by rw [List.map_const', List.length_range])
    | @tup a xs ds ha hd =>
      cases hy with
      | @tup b ys _ hb he =>
        have l1 := hd.length
        have l2 := he.length
        have lc : V.int (xs.length : Int) = V.int (ys.length : Int) := by rw [l1, l2]
        have hl := ho.1
        walk_at "go"
        refine ⟨_, _, xs, ys, rfl, .inr ⟨by walk_at "hpT", by walk_at "hpT", fun D hD => ?_⟩⟩
        rename_i tp ntp
        have s0 := same_new (o := .tup [V.ty "list", V.ty "tuple"]) ntp
        generalize upd H tp (.tup [V.ty "list", V.ty "tuple"]) = H1 at s0 hD
        refine lcV (walk_zipT (K := K) (a := a) (b := b) (xs := xs) (ys := ys) (n := ds.length) (by rw [l1, l2, Nat.min_self])) hD (fun _ => .bl true) (by omega) (fun H2 s => ⟨SqT.of (s _ _ (s0 _ _ ha)), SqT.of (s _ _ (s0 _ _ hb))⟩) (fun i y H2 H2' hi s y' Kt kt => ?_) (fun H' s hH => ?_) gm_pair
        · obtain ⟨t, x1, x2, rfl, nt, rfl, g1, g2⟩ := y'
          have hdi : ds[i]? = some ds[i] := List.getElem?_eq_getElem hi
          have q1 := (DqAll.at2 hd g1 hdi).same ((s0.trans s).trans (same_new (o := .tup [x1, x2]) nt))
          have q2 := (DqAll.at2 he g2 hdi).same ((s0.trans s).trans (same_new (o := .tup [x1, x2]) nt))
          refine g_wipe2 (SqT.of upd_same) rfl ?_
          walk_at "go"
          refine sp_like q1 q2 (ho.2 _ (List.getElem_mem hi)) fun H5 s5 => ?_
          exact kt _ ((same_new nt).trans s5)
        · walk_at "go"
          refine g_all (bs := List.replicate ds.length true) ?_ (SqL.of ?_)
          · have e : (List.replicate ds.length true).all id = true := by simp
            rw [e]
            exact k _ (s0.trans s)
          · rw [hH, List.map_replicate]
            exact congrArg (fun z => some (HO.lst z)) (by rw [List.map_const', List.length_range])
end
end Ko


namespace Ko
open PySem L2 PySem.Spec PyProof.Rows Xm
def spLow : Sp := fun vs H Q _ => ∃ n d : Int, vs = [.int n, .int d] ∧ 0 < d ∧ d.natAbs < 2 ^ 8900 ∧ Ret H Q (low n d)
def spHand : Sp := fun vs H Q _ => ∃ (N : Nat) (b c t : Addr) (q : Pq), vs = [.ref b, .ref t] ∧ Bag N H b c ∧ 1 ≤ N ∧ delH H b t = some (.tup [.int q.1, .int q.2]) ∧ ∀ x H', Nm (delH H' b) x q → Same (delH H b) (delH H' b) → Bag (N - 1) H' b c → Q x H'
/-- of the drawn size -/
def Small (q : Pq) : Prop := Lo q ∧ q.1.natAbs ≤ 1000 ∧ q.2 ≤ 12
def spNumber : Sp := fun vs H Q _ => ∃ (N : Nat) (b c : Addr), vs = [.ref b] ∧ Bag N H b c ∧ 3 ≤ N ∧ ∀ t q H', delH H' b t = some (.tup [.int q.1, .int q.2]) → Small q → Same (delH H b) (delH H' b) → Bag (N - 3) H' b c → Q (.ref t) H'
section
variable {N : Nat} {H : Hp} {Q : VK} {E : XK} {b c t : Addr} {q : Pq} {v : V} {d : Dt}
theorem sp_low {n d : Int} (k : Ret H Q (low n d)) (h0 : 0 < d) (s : d.natAbs < 2 ^ 8900) : spLow [.int n, .int d] H Q E := ⟨n, d, rfl, h0, s, k⟩
theorem sp_hand {n d : Int} (k : ∀ x H', Nm (delH H' b) x (n, d) → Same (delH H b) (delH H' b) → Bag (N - 1) H' b c → Q x H') (h : delH H b t = some (.tup [.int n, .int d])) (B : Bag N H b c) (hN : 1 ≤ N) : spHand [.ref b, .ref t] H Q E := ⟨N, b, c, t, (n, d), rfl, B, hN, h, k⟩
theorem sp_number (k : ∀ t q H', delH H' b t = some (.tup [.int q.1, .int q.2]) → Small q → Same (delH H b) (delH H' b) → Bag (N - 3) H' b c → Q (.ref t) H') (B : Bag N H b c) (hN : 3 ≤ N) : spNumber [.ref b] H Q E := ⟨N, b, c, rfl, B, hN, k⟩
end
/-- v is the pair of N over D in lowest terms, N within B -/
def Nr (H : Hp) (v : V) (D : Int) (B : Nat) (N : Int) : Prop := ∃ q, Pr H v q ∧ Is D N q ∧ N.natAbs ≤ B
/-- v is a number, N over D -/
def Na (H : Hp) (v : V) (D : Int) (B : Nat) (N : Int) : Prop := ∃ q, Nm H v q ∧ Is D N q ∧ N.natAbs ≤ B
abbrev tenP : Nat := 10000000000000000000000000000000000000000
section
variable {H H' : Hp} {v x y : V} {D E' N M : Int} {B C : Nat} {Q : VK} {E : XK}
theorem Nr.na (h : Nr H v D B N) : Na H v D B N := by
  obtain ⟨q, h1, h2⟩ := h
  exact ⟨q, .inl h1, h2⟩
theorem Nr.same (s : Same H H') (h : Nr H v D B N) : Nr H' v D B N := by
  obtain ⟨q, h1, h2⟩ := h
  exact ⟨q, h1.same s, h2⟩
theorem Na.same (s : Same H H') (h : Na H v D B N) : Na H' v D B N := by
  obtain ⟨q, h1, h2⟩ := h
  exact ⟨q, h1.same s, h2⟩
theorem Nr.mono (h : Nr H v D B N) (l : B ≤ C) : Nr H v D C N := by
  obtain ⟨q, h1, h2, h3⟩ := h
  exact ⟨q, h1, h2, Nat.le_trans h3 l⟩
theorem Nr.bd (h : Nr H v D B N) : N.natAbs ≤ B := by
  obtain ⟨q, h1, h2, h3⟩ := h
  exact h3
theorem Nr.eq (h : Nr H v D B N) (e : N = M) : Nr H v D B M := e ▸ h
theorem lt44 {n : Nat} (h : n < tenP) : n < 2 ^ 4400 := by
  have h1 : tenP ≤ 2 ^ 140 := by decide
  exact Nat.lt_of_lt_of_le h (Nat.le_trans h1 (Nat.pow_le_pow_right (by decide) (by decide)))
theorem is_sz {q : Pq} (hD : 0 < D) (h : Is D N q) (hB : N.natAbs ≤ B) (d : D.natAbs < tenP) (b : B < tenP) : Sz 4400 q := by
  obtain ⟨h0, h1, h2⟩ := h.den hD
  exact ⟨lt44 (by omega), lt44 (by omega)⟩
def OkD (D : Int) (B C : Nat) : Prop := 0 < D ∧ D.natAbs < tenP ∧ B < tenP ∧ C < tenP
theorem sp_plus (k : ∀ t H', Same H H' → Nr H' (.ref t) D (B + C) (N + M) → Q (.ref t) H') (h1 : Na H x D B N) (h2 : Na H y D C M) (s : OkD D B C) : spOp add [x, y] H Q E := by
  obtain ⟨p, a1, a2, a3⟩ := h1
  obtain ⟨q, b1, b2, b3⟩ := h2
  obtain ⟨s1, s2, s3, s4⟩ := s
  exact ⟨x, y, p, q, rfl, a1, b1, a2.1, b2.1, is_sz s1 a2 a3 s2 s3, is_sz s1 b2 b3 s2 s4, fun t H' z ht => k t H' z ⟨_, ⟨t, rfl, ht⟩, a2.add (by omega) b2, by omega⟩⟩
theorem sp_minus (k : ∀ t H', Same H H' → Nr H' (.ref t) D (B + C) (N - M) → Q (.ref t) H') (h1 : Na H x D B N) (h2 : Na H y D C M) (s : OkD D B C) : spOp sub [x, y] H Q E := by
  obtain ⟨p, a1, a2, a3⟩ := h1
  obtain ⟨q, b1, b2, b3⟩ := h2
  obtain ⟨s1, s2, s3, s4⟩ := s
  exact ⟨x, y, p, q, rfl, a1, b1, a2.1, b2.1, is_sz s1 a2 a3 s2 s3, is_sz s1 b2 b3 s2 s4, fun t H' z ht => k t H' z ⟨_, ⟨t, rfl, ht⟩, a2.sub (by omega) b2, by omega⟩⟩
theorem sp_times (k : ∀ t H', Same H H' → Nr H' (.ref t) (D * E') (B * C) (N * M) → Q (.ref t) H') (h1 : Na H x D B N) (h2 : Na H y E' C M) (s : OkD D B C) (s' : OkD E' B C) : spOp mul [x, y] H Q E := by
  obtain ⟨p, a1, a2, a3⟩ := h1
  obtain ⟨q, b1, b2, b3⟩ := h2
  obtain ⟨s1, s2, s3, s4⟩ := s
  obtain ⟨t1, t2, _, _⟩ := s'
  exact ⟨x, y, p, q, rfl, a1, b1, a2.1, b2.1, is_sz s1 a2 a3 s2 s3, is_sz t1 b2 b3 t2 s4, fun t H' z ht => k t H' z ⟨_, ⟨t, rfl, ht⟩, a2.mul (by omega) (by omega) b2, by rw [Int.natAbs_mul]; exact Nat.mul_le_mul a3 b3⟩⟩
def spLop (op : Pq → Pq → Pq) : Sp := fun vs H Q _ => ∃ x y p q, vs = [x, y] ∧ Pr H x p ∧ Pr H y q ∧ 0 < p.2 ∧ 0 < q.2 ∧ Sz 4400 p ∧ Sz 4400 q ∧ Ret H Q (op p q)
theorem sp_lop {op : Pq → Pq → Pq} {p q : Pq} (hx : Pr H x p) (hy : Pr H y q) (k : Ret H Q (op p q)) (h0 : 0 < p.2) (h1 : 0 < q.2) (sp : Sz 4400 p) (sq : Sz 4400 q) : spLop op [x, y] H Q E := ⟨x, y, p, q, rfl, hx, hy, h0, h1, sp, sq, k⟩
theorem sp_ladd (k : ∀ t H', Same H H' → Nr H' (.ref t) D (B + C) (N + M) → Q (.ref t) H') (h1 : Nr H x D B N) (h2 : Nr H y D C M) (s : OkD D B C) : spLop add [x, y] H Q E := by
  obtain ⟨p, a1, a2, a3⟩ := h1
  obtain ⟨q, b1, b2, b3⟩ := h2
  obtain ⟨s1, s2, s3, s4⟩ := s
  exact ⟨x, y, p, q, rfl, a1, b1, a2.1.1, b2.1.1, is_sz s1 a2 a3 s2 s3, is_sz s1 b2 b3 s2 s4, fun t H' z ht => k t H' z ⟨_, ⟨t, rfl, ht⟩, a2.add (by omega) b2, by omega⟩⟩
theorem sp_lsub (k : ∀ t H', Same H H' → Nr H' (.ref t) D (B + C) (N - M) → Q (.ref t) H') (h1 : Nr H x D B N) (h2 : Nr H y D C M) (s : OkD D B C) : spLop sub [x, y] H Q E := by
  obtain ⟨p, a1, a2, a3⟩ := h1
  obtain ⟨q, b1, b2, b3⟩ := h2
  obtain ⟨s1, s2, s3, s4⟩ := s
  exact ⟨x, y, p, q, rfl, a1, b1, a2.1.1, b2.1.1, is_sz s1 a2 a3 s2 s3, is_sz s1 b2 b3 s2 s4, fun t H' z ht => k t H' z ⟨_, ⟨t, rfl, ht⟩, a2.sub (by omega) b2, by omega⟩⟩
theorem sp_lmul (k : ∀ t H', Same H H' → Nr H' (.ref t) (D * E') (B * C) (N * M) → Q (.ref t) H') (h1 : Nr H x D B N) (h2 : Nr H y E' C M) (s : OkD D B C) (s' : OkD E' B C) : spLop mul [x, y] H Q E := by
  obtain ⟨p, a1, a2, a3⟩ := h1
  obtain ⟨q, b1, b2, b3⟩ := h2
  obtain ⟨s1, s2, s3, s4⟩ := s
  obtain ⟨t1, t2, _, _⟩ := s'
  exact ⟨x, y, p, q, rfl, a1, b1, a2.1.1, b2.1.1, is_sz s1 a2 a3 s2 s3, is_sz t1 b2 b3 t2 s4, fun t H' z ht => k t H' z ⟨_, ⟨t, rfl, ht⟩, a2.mul (by omega) (by omega) b2, by rw [Int.natAbs_mul]; exact Nat.mul_le_mul a3 b3⟩⟩
/-- two numbers of one value are one -/
theorem Nr.dq (h : Nr H v D B N) : ∃ q, Is D N q ∧ Dq H v (.pq q) := by
  obtain ⟨q, h1, h2, h3⟩ := h
  exact ⟨q, h2, h1.dq⟩
end
theorem sub_add {p q : Pq} : add p (-q.1, q.2) = sub p q := by
  unfold add sub
  show low (p.1 * q.2 + -q.1 * p.2) (p.2 * q.2) = _
  congr 1
  grind
theorem mul_int (a b : Int) : mul (a, 1) (b, 1) = (a * b, 1) := by
  unfold mul
  exact low_den
theorem gcd_step {b s : Int} (hb : 0 ≤ b) (hs : 0 < s) : Int.gcd s (b % s) = Int.gcd b s := by
  obtain ⟨b, rfl⟩ := Int.eq_ofNat_of_zero_le hb
  obtain ⟨s, rfl⟩ := Int.eq_ofNat_of_zero_le (Int.le_of_lt hs)
  show Nat.gcd s (b % s) = Nat.gcd b s
  rw [Nat.gcd_comm s, ← Nat.gcd_rec, Nat.gcd_comm]
theorem up8900 {n : Nat} (h : n < 10000000000000000000000000000000000000000) : n < 2 ^ 8900 := by
  have h1 : (10000000000000000000000000000000000000000 : Nat) ≤ 2 ^ 140 := by decide
  exact Nat.lt_of_lt_of_le h (Nat.le_trans h1 (Nat.pow_le_pow_right (by decide) (by decide)))
theorem low_small {n d : Int} (h : 0 < d) (hn : n.natAbs ≤ 1000) (hd : d ≤ 12) : Small (low n d) := by
  have ⟨h1, h2⟩ := low_le (n := n) (d := d) (by omega)
  exact ⟨low_lo h, by omega, by omega⟩
theorem small_int {n : Int} (h : n.natAbs ≤ 1000) : Small (n, 1) := ⟨lo_int n, h, by show (1 : Int) ≤ 12; decide⟩

local macro_rules | `(tactic| walk_at "hpS") => `(tactic| with_reducible first
  | exact Same.refl _
  | assumption
  | (refine' Same.trans ?hq (same_new (by assumption)); (case hq => walk_at "hpS"))
  | (refine' Same.trans ?hq (by assumption); (case hq => walk_at "hpS"))
  | fail)
local macro_rules | `(tactic| walk_at "hpH") => `(tactic| with_reducible first
  | assumption
  | exact upd_same
  | (refine' same_at (same_new (by assumption)) ?hq; (case hq => walk_at "hpH"))
  | (refine' same_at (by assumption) ?hq; (case hq => walk_at "hpH"))
  | fail)
local macro_rules | `(tactic| walk_at "hpTo") => `(tactic| with_reducible first
  | assumption
  | (refine' sq_t (same_new (by assumption)) ?hq; (case hq => walk_at "hpTo"))
  | (refine' sq_t (by assumption) ?hq; (case hq => walk_at "hpTo"))
  | fail)
local macro_rules | `(tactic| walk_at "hpT") => `(tactic| with_reducible first
  | (refine' SqT.of ?hq; (case hq => walk_at "hpH"))
  | walk_at "hpTo"
  | fail)
local macro_rules | `(tactic| walk_at "hpLo") => `(tactic| with_reducible first
  | assumption
  | (refine' sq_l (same_new (by assumption)) ?hq; (case hq => walk_at "hpLo"))
  | (refine' sq_l (by assumption) ?hq; (case hq => walk_at "hpLo"))
  | fail)
local macro_rules | `(tactic| walk_at "hpL") => `(tactic| with_reducible first
  | (refine' SqL.of ?hq; (case hq => walk_at "hpH"))
  | walk_at "hpLo"
  | fail)
local macro_rules | `(tactic| walk_at "kit") => `(tactic| with_reducible first
  | exact kit_int_bool | exact kit_int_int | exact kit_int_tuple | exact kit_int_list | exact kit_int_str
  | exact kit_tuple_tuple | exact kit_tuple_int | exact kit_tuple_bool | exact kit_tuple_list | exact kit_tuple_str
  | exact kit_bool_bool | exact kit_bool_int | exact kit_bool_tuple | exact kit_bool_list | exact kit_bool_str
  | exact kit_str_str | exact kit_str_int | exact kit_str_bool | exact kit_str_tuple | exact kit_str_list
  | exact kit_NoneType_int | exact kit_NoneType_bool | exact kit_NoneType_tuple | exact kit_NoneType_list | exact kit_NoneType_str
  | exact kit_list_list | exact kit_list_tuple | exact kit_list_int | exact kit_list_bool | exact kit_list_str
  | fail)
local macro_rules | `(tactic| walk_at "call") => `(tactic| fail)
local macro_rules | `(tactic| walk_at "s0") => `(tactic| with_reducible first
  | refine g_seq ?_ | refine g_asg ?_ | refine g_name ?_ | refine g_ifS ?_ | refine g_ret ?_ | refine g_retN ?_ | refine g_next ?_
  | refine g_par ?_ | refine g_parE ?_ | refine g_drop ?_
  | refine g_c ?_ | refine g_op ?_ | refine g_un ?_ | refine g_cb ?_ | refine g_call ?_ | refine g_nil ?_ | refine g_cons ?_ | refine g_tup ?_ | refine g_lst ?_
  | refine g_test ?_ | refine g_B ?_ | refine g_blF ?_ | refine g_and ?_ | refine g_or ?_ | refine g_not ?_ | refine g_andV ?_ | refine g_orV ?_ | refine g_notV ?_ | refine g_if ?_
  | refine iteT ?_ | refine iteF ?_
  | refine g_chain ?_ | refine g_sl ?_ | refine g_noPart ?_ | refine g_part ?_ | refine g_partI ?_ | refine g_slS ?_ ?side | refine g_M1 ?_ | refine g_M1s ?_ | refine g_starts ?_ | refine g_bm ?_ | refine g_bm0 ?_ | refine g_tyS ?_
  | refine g_Fs ?_ | refine g_JsN ?_ | refine g_JsC ?_ | refine g_JsE ?_ ?side | refine g_fmt ?_ | refine g_fmtI ?_ ?side | refine g_fmtS ?_ ?side | refine g_iList ?_ | refine g_iTup ?_ | refine g_iStr ?_ | refine g_iStrE ?_ | refine g_iRng1 ?_ | refine g_iRng1E ?_ ?side1 ?side2 | refine g_yes ?_ | refine g_ckw ?_ | refine g_dget ?_ | refine g_dictZip ?_ | refine g_gCons ?_ | refine g_gNil ?_ | refine g_revL ?_ | refine g_for ?_ | refine g_lc ?_ | refine g_addS ?_ ?side | refine g_str ?_ ?side | refine g_lenS ?_ ?side
  | refine g_rI0 ?_ | refine g_rI ?_ ?side | refine g_rU ?_ | refine g_abs ?_ | refine g_int ?_ | refine g_intB ?_ | refine g_gcd ?_ | refine g_inS ?_ | refine g_isN0 ?_ | refine g_notN0 ?_
  | fail)
local macro_rules | `(tactic| walk_at "s1") => `(tactic| first
  | ((with_reducible refine' g_var ?h ?_); (case h => exact rfl))
  | ((with_reducible refine' g_new ?h ?_); (case h => exact (by simp only [List.length_cons, List.length_nil]; decide)); intro tnew htnew)
  | ((with_reducible refine' iteDT ?h ?_); (case h => first | exact rfl | assumption))
  | ((with_reducible refine' iteNT ?h ?_); (case h => first | exact rfl | assumption))
  | ((with_reducible refine' iteDF ?h ?_); (case h => first | assumption | (intro z; cases z)))
  | ((with_reducible refine' iteNF ?h ?_); (case h => first | assumption | (intro z; cases z)))
  | ((with_reducible refine' g_eq ?_ ?h); (case h => exact rfl))
  | ((with_reducible refine' g_ne ?_ ?h); (case h => exact rfl))
  | ((with_reducible refine' g_ixT ?_ ?h ?e); (case h => walk_at "hpT"); (case e => first | exact rfl | exact atI_0 | exact atI_1))
  | ((with_reducible refine' g_ixL ?_ ?h ?e); (case h => walk_at "hpL"); (case e => first | exact rfl | exact atI_0 | exact atI_1))
  | ((with_reducible refine' g_isi_int ?_ ?h); (case h => walk_at "kit"))
  | ((with_reducible refine' g_isi_str ?_ ?h); (case h => walk_at "kit"))
  | ((with_reducible refine' g_isi_bl ?_ ?h); (case h => walk_at "kit"))
  | ((with_reducible refine' g_isi_non ?_ ?h); (case h => walk_at "kit"))
  | ((with_reducible refine' g_isi_t ?_ ?t ?h); (case t => walk_at "hpT"); (case h => walk_at "kit"))
  | ((with_reducible refine' g_isi_l ?_ ?t ?h ?l); (case l => walk_at "hpH"); (case t => walk_at "hpL"); (case h => walk_at "kit"))
  | ((with_reducible refine' g_lenT ?_ ?h); (case h => walk_at "hpT"))
  | ((with_reducible refine' g_lenL ?_ ?h); (case h => walk_at "hpL"))
  | ((with_reducible refine' g_split ?_ ?h ?side); (case h => exact rfl); intro pnew hpnew)
  | ((with_reducible refine' g_slL ?h ?_); (case h => walk_at "hpL"); intro pnew hpnew)
  | ((with_reducible refine' g_iListE ?_ ?h); (case h => walk_at "hpL"))
  | ((with_reducible refine' g_iTupE ?_ ?h); (case h => walk_at "hpT"))
  | ((with_reducible refine' g_tyL ?_ ?h); (case h => walk_at "hpL"))
  | ((with_reducible refine' g_join ?_ ?h ?side); (case h => walk_at "hpL"))
  | ((with_reducible refine' g_append ?_ ?h ?side); (case h => walk_at "hpH"))
  | ((with_reducible refine' g_all ?_ ?h); (case h => walk_at "hpL"))
  | ((with_reducible refine' g_gTup ?_ ?h ?n); (case h => walk_at "hpT"); (case n => exact rfl))
  | ((with_reducible refine' g_revLE ?h ?_); (case h => walk_at "hpL"); intro pnew hpnew)
  | ((with_reducible refine' g_isN1 ?_ ?h); (case h => first | assumption | (intro z; cases z)))
  | ((with_reducible refine' g_notN1 ?_ ?h); (case h => first | assumption | (intro z; cases z)))
  | walk_at "call"
  | ((with_reducible refine' iteBT ?h ?_); (case h => first | assumption | exact rfl))
  | ((with_reducible refine' iteBF ?h ?_); (case h => first | assumption | exact rfl))
  | fail)
local macro_rules | `(tactic| walk_at "nrm") => `(tactic| simp only [Bool.not_true, Bool.not_false, decide_eq_true_eq, decide_true, decide_false, Bool.true_and, Bool.false_and, Bool.and_true, Bool.and_false, V.int.injEq, V.bl.injEq, V.str.injEq, List.length_cons, List.length_nil, Bool.not_eq_true', decide_eq_false_iff_not, Int.not_lt, Int.not_le, reduceCtorEq, not_false_eq_true, not_true_eq_false, Decidable.not_not] at *)
local macro_rules | `(tactic| walk_at "sp") => `(tactic| ((with_reducible refine ite2 (fun c => ?_) (fun c => ?_)) <;> (try simp only [decide_eq_true_eq, Bool.not_eq_true', decide_eq_false_iff_not, V.int.injEq, V.bl.injEq, V.str.injEq, Int.not_lt, Int.not_le, reduceCtorEq, Decidable.not_not, Bool.false_eq_true, Bool.true_eq_false] at c) <;> (try (exfalso; omega))))
local macro_rules | `(tactic| walk_at "s") => `(tactic| first | walk_at "s0" | walk_at "s1" | fail)
local macro_rules | `(tactic| walk_at "go") => `(tactic| (try dsimp only [cxK, cxK']); repeat' walk_at "s")
local macro_rules | `(tactic| walk_at "gos") => `(tactic| ((try dsimp only [cxK, cxK']); repeat' (first | walk_at "s" | walk_at "sp" | fail)))

local macro_rules | `(tactic| walk_at "hpNo") => `(tactic| with_reducible first
  | assumption
  | (refine' Nm.ofPr ?hq; (case hq => assumption))
  | (refine' Nm.same (same_new (by assumption)) ?hq; (case hq => walk_at "hpNo"))
  | (refine' Nm.same (by assumption) ?hq; (case hq => walk_at "hpNo"))
  | fail)
local macro_rules | `(tactic| walk_at "hpN") => `(tactic| with_reducible first
  | walk_at "hpNo"
  | (refine' Nm.of ?hq; (case hq => walk_at "hpH"))
  | fail)
local macro_rules | `(tactic| walk_at "hpPo") => `(tactic| with_reducible first
  | assumption
  | (refine' Pr.same (same_new (by assumption)) ?hq; (case hq => walk_at "hpPo"))
  | (refine' Pr.same (by assumption) ?hq; (case hq => walk_at "hpPo"))
  | fail)
local macro_rules | `(tactic| walk_at "hpP") => `(tactic| with_reducible first
  | walk_at "hpPo"
  | (refine' Pr.of ?hq; (case hq => walk_at "hpH"))
  | fail)
local macro_rules | `(tactic| walk_at "hpDo") => `(tactic| with_reducible first
  | assumption
  | exact Dq.int _ | exact Dq.bl _ | exact Dq.str _ | exact Dq.non
  | (refine' Dq.same (same_new (by assumption)) ?hq; (case hq => walk_at "hpDo"))
  | (refine' Dq.same (by assumption) ?hq; (case hq => walk_at "hpDo"))
  | fail)
local macro_rules | `(tactic| walk_at "hpD") => `(tactic| with_reducible first
  | walk_at "hpDo"
  | fail)

local macro_rules | `(tactic| walk_at "call") => `(tactic| first
  | ((with_reducible refine' sp_low ?_ ?side1 ?side2); intro tp Hp' sp' hp')
  | ((with_reducible refine' sp_lop ?h1 ?h2 ?_ ?side1 ?side2 ?side3 ?side4); (case h1 => walk_at "hpP"); (case h2 => walk_at "hpP"); intro tp Hp' sp' hp')
  | fail)
section
variable {P : Program} {w : World} {K : Fg} {mg : Str → Option Value} {base : Heap} {f f1 f2 f3 : Addr} {fd : FuncData}
theorem ok_l_add (F : Fun K "_law_add" "_law_add" s_l_add f fd) (T : Blt mg) (D_l_low : Df P w K mg base 1 "_law_low" f1 ["_law_num", "_law_den"] spLow) : FnOk P w K mg base CX0 2 f fd ["_law_p", "_law_q"] (spLop add) := by
  obtain ⟨_, G_l_low, B_l_low⟩ := D_l_low.ok
  refine F.ok sc_l_add (fun vs H Q E h => ?_) (fun cdv A outer s H vs Q E hr h => ?_)
  · obtain ⟨t, u, p, q, rfl, _⟩ := h
    rfl
  · obtain ⟨_, _, p, q, rfl, ⟨t, rfl, ht⟩, ⟨u, rfl, hu⟩, p0, q0, ⟨sp1, sp2⟩, ⟨sq1, sq2⟩, k⟩ := h
    refine ⟨_, (pss_cons (ps_if (PW.pt (pw_and (pt_cmpR op_eq (pe_ix (ix_seqK K) (pv 0) pe_int (fun _ _ => rfl)) pe_int (nomark _)) (pw_and1 (pt_cmpR op_eq (pe_ix (ix_seqK K) (pv 1) pe_int (fun _ _ => rfl)) pe_int (nomark _)))))
      (pss_one (ps_ret (pe_tup (pa_cons (pe_op op_add (pe_ix (ix_seqK K) (pv 0) pe_int (fun _ _ => rfl)) (pe_ix (ix_seqK K) (pv 1) pe_int (fun _ _ => rfl))) (pa_cons pe_int pa_nil))))) pss_nil)
      (pss_one (ps_ret (pe_call G_l_low (hr.mono (by decide)) (by rfl) D_l_low.g D_l_low.kp B_l_low .nil pass0 (pa_cons (pe_op op_add (pe_op op_mulW (pe_ix (ix_seqK K) (pv 0) pe_int (fun _ _ => rfl)) (pe_ix (ix_seqK K) (pv 1) pe_int (fun _ _ => rfl))) (pe_op op_mulW (pe_ix (ix_seqK K) (pv 1) pe_int (fun _ _ => rfl)) (pe_ix (ix_seqK K) (pv 0) pe_int (fun _ _ => rfl)))) (pa_cons (pe_op op_mulW (pe_ix (ix_seqK K) (pv 0) pe_int (fun _ _ => rfl)) (pe_ix (ix_seqK K) (pv 1) pe_int (fun _ _ => rfl))) pa_nil)))))), ?_⟩
    by_cases c1 : p.2 = 1
    · by_cases c2 : q.2 = 1
      · have c1' : V.int p.2 = V.int 1 := by rw [c1]
        have c2' : V.int q.2 = V.int 1 := by rw [c2]
        walk_at "go"
        refine k _ _ ?_ ?_
        · walk_at "hpS"
        · have e : add p q = (p.1 + q.1, 1) := by
            obtain ⟨a, b⟩ := p
            obtain ⟨c, d⟩ := q
            cases c1
            cases c2
            exact add_int a c
          rw [e]
          walk_at "hpH"
      · have c1' : V.int p.2 = V.int 1 := by rw [c1]
        have c2' : ¬ V.int q.2 = V.int 1 := fun z => c2 (V.int.inj z)
        walk_at "go"
        all_goals first
          | exact sz_mul (by assumption) (by assumption)
          | exact sz_mulD (by assumption) (by assumption)
          | exact mul_pos' (by assumption) (by assumption)
          | skip
        refine k _ _ ?_ ?_
        · walk_at "hpS"
        · assumption
    · have c1' : ¬ V.int p.2 = V.int 1 := fun z => c1 (V.int.inj z)
      walk_at "go"
      all_goals first
        | exact sz_mul (by assumption) (by assumption)
        | exact sz_mulD (by assumption) (by assumption)
        | exact mul_pos' (by assumption) (by assumption)
        | skip
      refine k _ _ ?_ ?_
      · walk_at "hpS"
      · assumption
theorem ok_l_mul (F : Fun K "_law_mul" "_law_mul" s_l_mul f fd) (T : Blt mg) (D_l_low : Df P w K mg base 1 "_law_low" f1 ["_law_num", "_law_den"] spLow) : FnOk P w K mg base CX0 2 f fd ["_law_p", "_law_q"] (spLop mul) := by
  obtain ⟨_, G_l_low, B_l_low⟩ := D_l_low.ok
  refine F.ok sc_l_mul (fun vs H Q E h => ?_) (fun cdv A outer s H vs Q E hr h => ?_)
  · obtain ⟨t, u, p, q, rfl, _⟩ := h
    rfl
  · obtain ⟨_, _, p, q, rfl, ⟨t, rfl, ht⟩, ⟨u, rfl, hu⟩, p0, q0, ⟨sp1, sp2⟩, ⟨sq1, sq2⟩, k⟩ := h
    refine ⟨_, (pss_cons (ps_if (PW.pt (pw_and (pt_cmpR op_eq (pe_ix (ix_seqK K) (pv 0) pe_int (fun _ _ => rfl)) pe_int (nomark _)) (pw_and1 (pt_cmpR op_eq (pe_ix (ix_seqK K) (pv 1) pe_int (fun _ _ => rfl)) pe_int (nomark _)))))
      (pss_one (ps_ret (pe_tup (pa_cons (pe_op op_mulW (pe_ix (ix_seqK K) (pv 0) pe_int (fun _ _ => rfl)) (pe_ix (ix_seqK K) (pv 1) pe_int (fun _ _ => rfl))) (pa_cons pe_int pa_nil))))) pss_nil)
      (pss_one (ps_ret (pe_call G_l_low (hr.mono (by decide)) (by rfl) D_l_low.g D_l_low.kp B_l_low .nil pass0 (pa_cons (pe_op op_mulW (pe_ix (ix_seqK K) (pv 0) pe_int (fun _ _ => rfl)) (pe_ix (ix_seqK K) (pv 1) pe_int (fun _ _ => rfl))) (pa_cons (pe_op op_mulW (pe_ix (ix_seqK K) (pv 0) pe_int (fun _ _ => rfl)) (pe_ix (ix_seqK K) (pv 1) pe_int (fun _ _ => rfl))) pa_nil)))))), ?_⟩
    by_cases c1 : p.2 = 1
    · by_cases c2 : q.2 = 1
      · have c1' : V.int p.2 = V.int 1 := by rw [c1]
        have c2' : V.int q.2 = V.int 1 := by rw [c2]
        walk_at "go"
        all_goals first
          | exact sz_mul (by assumption) (by assumption)
          | skip
        refine k _ _ ?_ ?_
        · walk_at "hpS"
        · have e : mul p q = (p.1 * q.1, 1) := by
            obtain ⟨a, b⟩ := p
            obtain ⟨c, d⟩ := q
            cases c1
            cases c2
            exact mul_int a c
          rw [e]
          walk_at "hpH"
      · have c1' : V.int p.2 = V.int 1 := by rw [c1]
        have c2' : ¬ V.int q.2 = V.int 1 := fun z => c2 (V.int.inj z)
        walk_at "go"
        all_goals first
          | exact sz_mul (by assumption) (by assumption)
          | exact sz_mulD (by assumption) (by assumption)
          | exact mul_pos' (by assumption) (by assumption)
          | skip
        refine k _ _ ?_ ?_
        · walk_at "hpS"
        · assumption
    · have c1' : ¬ V.int p.2 = V.int 1 := fun z => c1 (V.int.inj z)
      walk_at "go"
      all_goals first
        | exact sz_mul (by assumption) (by assumption)
        | exact sz_mulD (by assumption) (by assumption)
        | exact mul_pos' (by assumption) (by assumption)
        | skip
      refine k _ _ ?_ ?_
      · walk_at "hpS"
      · assumption
theorem ok_l_sub (F : Fun K "_law_sub" "_law_sub" s_l_sub f fd) (T : Blt mg) (D_l_add : Df P w K mg base 2 "_law_add" f1 ["_law_p", "_law_q"] (spLop add)) : FnOk P w K mg base CX0 3 f fd ["_law_p", "_law_q"] (spLop sub) := by
  obtain ⟨_, G_l_add, B_l_add⟩ := D_l_add.ok
  refine F.ok sc_l_sub (fun vs H Q E h => ?_) (fun cdv A outer s H vs Q E hr h => ?_)
  · obtain ⟨t, u, p, q, rfl, _⟩ := h
    rfl
  · obtain ⟨_, _, p, q, rfl, ⟨t, rfl, ht⟩, ⟨u, rfl, hu⟩, p0, q0, ⟨sp1, sp2⟩, ⟨sq1, sq2⟩, k⟩ := h
    refine ⟨_, (pss_one (ps_ret (pe_call G_l_add (hr.mono (by decide)) (by rfl) D_l_add.g D_l_add.kp B_l_add .nil pass0 (pa_cons (pv 0) (pa_cons (pe_tup (pa_cons (pe_un un_neg (pe_ix (ix_seqK K) (pv 1) pe_int (fun _ _ => rfl))) (pa_cons (pe_ix (ix_seqK K) (pv 1) pe_int (fun _ _ => rfl)) pa_nil))) pa_nil))))), ?_⟩
    walk_at "go"
    rename_i tn htn
    have s1 := same_new (o := .tup [.int (-q.1), .int q.2]) htn
    refine sp_lop (p := p) (q := (-q.1, q.2)) ⟨t, rfl, s1 _ _ ht⟩ ⟨tn, rfl, upd_same⟩ (fun t' H' s' h' => ?_) p0 q0 ⟨sp1, sp2⟩ ⟨by rw [Int.natAbs_neg]; exact sq1, sq2⟩
    rw [sub_add] at h'
    exact k _ _ (s1.trans s') h'
theorem ok_l_lt (F : Fun K "_law_lt" "_law_lt" s_l_lt f fd) (T : Blt mg) : FnOk P w K mg base CX0 1 f fd ["_law_p", "_law_q"] spBelow := by
  refine F.ok sc_l_lt (fun vs H Q E h => ?_) (fun cdv A outer s H vs Q E hr h => ?_)
  · obtain ⟨x, y, p, q, rfl, _⟩ := h
    rfl
  · obtain ⟨x, y, p, q, rfl, ⟨t, rfl, ht⟩, ⟨u, rfl, hu⟩, ⟨sp1, sp2⟩, ⟨sq1, sq2⟩, k⟩ := h
    refine ⟨_, (pss_one (ps_ret (pe_cmpR op_lt (pe_op op_mulW (pe_ix (ix_seqK K) (pv 0) pe_int (fun _ _ => rfl)) (pe_ix (ix_seqK K) (pv 1) pe_int (fun _ _ => rfl))) (pe_op op_mulW (pe_ix (ix_seqK K) (pv 1) pe_int (fun _ _ => rfl)) (pe_ix (ix_seqK K) (pv 0) pe_int (fun _ _ => rfl))) (nomark _)))), ?_⟩
    walk_at "go"
    all_goals first
      | exact sz_mul (by assumption) (by assumption)
      | exact k
end

local macro_rules | `(tactic| walk_at "hpS") => `(tactic| with_reducible first
  | exact Same.refl _
  | assumption
  | (refine' Same.trans ?hq (same_new (by assumption)); (case hq => walk_at "hpS"))
  | (refine' Same.trans ?hq (by assumption); (case hq => walk_at "hpS"))
  | fail)
local macro_rules | `(tactic| walk_at "hpH") => `(tactic| with_reducible first
  | assumption
  | exact upd_same
  | (refine' same_at (same_new (by assumption)) ?hq; (case hq => walk_at "hpH"))
  | (refine' same_at (by assumption) ?hq; (case hq => walk_at "hpH"))
  | fail)
local macro_rules | `(tactic| walk_at "hpTo") => `(tactic| with_reducible first
  | assumption
  | (refine' sq_t (same_new (by assumption)) ?hq; (case hq => walk_at "hpTo"))
  | (refine' sq_t (by assumption) ?hq; (case hq => walk_at "hpTo"))
  | fail)
local macro_rules | `(tactic| walk_at "hpT") => `(tactic| with_reducible first
  | (refine' SqT.of ?hq; (case hq => walk_at "hpH"))
  | walk_at "hpTo"
  | fail)
local macro_rules | `(tactic| walk_at "hpLo") => `(tactic| with_reducible first
  | assumption
  | (refine' sq_l (same_new (by assumption)) ?hq; (case hq => walk_at "hpLo"))
  | (refine' sq_l (by assumption) ?hq; (case hq => walk_at "hpLo"))
  | fail)
local macro_rules | `(tactic| walk_at "hpL") => `(tactic| with_reducible first
  | (refine' SqL.of ?hq; (case hq => walk_at "hpH"))
  | walk_at "hpLo"
  | fail)
local macro_rules | `(tactic| walk_at "kit") => `(tactic| with_reducible first
  | exact kit_int_bool | exact kit_int_int | exact kit_int_tuple | exact kit_int_list | exact kit_int_str
  | exact kit_tuple_tuple | exact kit_tuple_int | exact kit_tuple_bool | exact kit_tuple_list | exact kit_tuple_str
  | exact kit_bool_bool | exact kit_bool_int | exact kit_bool_tuple | exact kit_bool_list | exact kit_bool_str
  | exact kit_str_str | exact kit_str_int | exact kit_str_bool | exact kit_str_tuple | exact kit_str_list
  | exact kit_NoneType_int | exact kit_NoneType_bool | exact kit_NoneType_tuple | exact kit_NoneType_list | exact kit_NoneType_str
  | exact kit_list_list | exact kit_list_tuple | exact kit_list_int | exact kit_list_bool | exact kit_list_str
  | fail)
local macro_rules | `(tactic| walk_at "call") => `(tactic| fail)
local macro_rules | `(tactic| walk_at "s0") => `(tactic| with_reducible first
  | refine g_seq ?_ | refine g_asg ?_ | refine g_name ?_ | refine g_ifS ?_ | refine g_ret ?_ | refine g_retN ?_ | refine g_next ?_
  | refine g_par ?_ | refine g_parE ?_ | refine g_drop ?_
  | refine g_c ?_ | refine g_op ?_ | refine g_un ?_ | refine g_cb ?_ | refine g_call ?_ | refine g_nil ?_ | refine g_cons ?_ | refine g_tup ?_ | refine g_lst ?_
  | refine g_test ?_ | refine g_B ?_ | refine g_blF ?_ | refine g_and ?_ | refine g_or ?_ | refine g_not ?_ | refine g_andV ?_ | refine g_orV ?_ | refine g_notV ?_ | refine g_if ?_
  | refine iteT ?_ | refine iteF ?_
  | refine g_chain ?_ | refine g_sl ?_ | refine g_noPart ?_ | refine g_part ?_ | refine g_partI ?_ | refine g_slS ?_ ?side | refine g_M1 ?_ | refine g_M1s ?_ | refine g_starts ?_ | refine g_bm ?_ | refine g_bm0 ?_ | refine g_tyS ?_
  | refine g_Fs ?_ | refine g_JsN ?_ | refine g_JsC ?_ | refine g_JsE ?_ ?side | refine g_fmt ?_ | refine g_fmtI ?_ ?side | refine g_fmtS ?_ ?side | refine g_iList ?_ | refine g_iTup ?_ | refine g_iStr ?_ | refine g_iStrE ?_ | refine g_iRng1 ?_ | refine g_iRng1E ?_ ?side1 ?side2 | refine g_yes ?_ | refine g_ckw ?_ | refine g_dget ?_ | refine g_dictZip ?_ | refine g_gCons ?_ | refine g_gNil ?_ | refine g_revL ?_ | refine g_for ?_ | refine g_lc ?_ | refine g_addS ?_ ?side | refine g_str ?_ ?side | refine g_lenS ?_ ?side
  | refine g_rI0 ?_ | refine g_rI ?_ ?side | refine g_rU ?_ | refine g_abs ?_ | refine g_int ?_ | refine g_intB ?_ | refine g_gcd ?_ | refine g_inS ?_ | refine g_isN0 ?_ | refine g_notN0 ?_
  | fail)
local macro_rules | `(tactic| walk_at "s1") => `(tactic| first
  | ((with_reducible refine' g_var ?h ?_); (case h => exact rfl))
  | ((with_reducible refine' g_new ?h ?_); (case h => exact (by simp only [List.length_cons, List.length_nil]; decide)); intro tnew htnew)
  | ((with_reducible refine' iteDT ?h ?_); (case h => first | exact rfl | assumption))
  | ((with_reducible refine' iteNT ?h ?_); (case h => first | exact rfl | assumption))
  | ((with_reducible refine' iteDF ?h ?_); (case h => first | assumption | (intro z; cases z)))
  | ((with_reducible refine' iteNF ?h ?_); (case h => first | assumption | (intro z; cases z)))
  | ((with_reducible refine' g_eq ?_ ?h); (case h => exact rfl))
  | ((with_reducible refine' g_ne ?_ ?h); (case h => exact rfl))
  | ((with_reducible refine' g_ixT ?_ ?h ?e); (case h => walk_at "hpT"); (case e => first | exact rfl | exact atI_0 | exact atI_1))
  | ((with_reducible refine' g_ixL ?_ ?h ?e); (case h => walk_at "hpL"); (case e => first | exact rfl | exact atI_0 | exact atI_1))
  | ((with_reducible refine' g_isi_int ?_ ?h); (case h => walk_at "kit"))
  | ((with_reducible refine' g_isi_str ?_ ?h); (case h => walk_at "kit"))
  | ((with_reducible refine' g_isi_bl ?_ ?h); (case h => walk_at "kit"))
  | ((with_reducible refine' g_isi_non ?_ ?h); (case h => walk_at "kit"))
  | ((with_reducible refine' g_isi_t ?_ ?t ?h); (case t => walk_at "hpT"); (case h => walk_at "kit"))
  | ((with_reducible refine' g_isi_l ?_ ?t ?h ?l); (case l => walk_at "hpH"); (case t => walk_at "hpL"); (case h => walk_at "kit"))
  | ((with_reducible refine' g_lenT ?_ ?h); (case h => walk_at "hpT"))
  | ((with_reducible refine' g_lenL ?_ ?h); (case h => walk_at "hpL"))
  | ((with_reducible refine' g_split ?_ ?h ?side); (case h => exact rfl); intro pnew hpnew)
  | ((with_reducible refine' g_slL ?h ?_); (case h => walk_at "hpL"); intro pnew hpnew)
  | ((with_reducible refine' g_iListE ?_ ?h); (case h => walk_at "hpL"))
  | ((with_reducible refine' g_iTupE ?_ ?h); (case h => walk_at "hpT"))
  | ((with_reducible refine' g_tyL ?_ ?h); (case h => walk_at "hpL"))
  | ((with_reducible refine' g_join ?_ ?h ?side); (case h => walk_at "hpL"))
  | ((with_reducible refine' g_append ?_ ?h ?side); (case h => walk_at "hpH"))
  | ((with_reducible refine' g_all ?_ ?h); (case h => walk_at "hpL"))
  | ((with_reducible refine' g_gTup ?_ ?h ?n); (case h => walk_at "hpT"); (case n => exact rfl))
  | ((with_reducible refine' g_revLE ?h ?_); (case h => walk_at "hpL"); intro pnew hpnew)
  | ((with_reducible refine' g_isN1 ?_ ?h); (case h => first | assumption | (intro z; cases z)))
  | ((with_reducible refine' g_notN1 ?_ ?h); (case h => first | assumption | (intro z; cases z)))
  | walk_at "call"
  | ((with_reducible refine' iteBT ?h ?_); (case h => first | assumption | exact rfl))
  | ((with_reducible refine' iteBF ?h ?_); (case h => first | assumption | exact rfl))
  | fail)
local macro_rules | `(tactic| walk_at "nrm") => `(tactic| simp only [Bool.not_true, Bool.not_false, decide_eq_true_eq, decide_true, decide_false, Bool.true_and, Bool.false_and, Bool.and_true, Bool.and_false, V.int.injEq, V.bl.injEq, V.str.injEq, List.length_cons, List.length_nil, Bool.not_eq_true', decide_eq_false_iff_not, Int.not_lt, Int.not_le, reduceCtorEq, not_false_eq_true, not_true_eq_false, Decidable.not_not] at *)
local macro_rules | `(tactic| walk_at "sp") => `(tactic| ((with_reducible refine ite2 (fun c => ?_) (fun c => ?_)) <;> (try simp only [decide_eq_true_eq, Bool.not_eq_true', decide_eq_false_iff_not, V.int.injEq, V.bl.injEq, V.str.injEq, Int.not_lt, Int.not_le, reduceCtorEq, Decidable.not_not, Bool.false_eq_true, Bool.true_eq_false] at c) <;> (try (exfalso; omega))))
local macro_rules | `(tactic| walk_at "s") => `(tactic| first | walk_at "s0" | walk_at "s1" | fail)
local macro_rules | `(tactic| walk_at "go") => `(tactic| (try dsimp only [cxK, cxK']); repeat' walk_at "s")
local macro_rules | `(tactic| walk_at "gos") => `(tactic| ((try dsimp only [cxK, cxK']); repeat' (first | walk_at "s" | walk_at "sp" | fail)))

local macro_rules | `(tactic| walk_at "hpNo") => `(tactic| with_reducible first
  | assumption
  | (refine' Nm.ofPr ?hq; (case hq => assumption))
  | (refine' Nm.same (same_new (by assumption)) ?hq; (case hq => walk_at "hpNo"))
  | (refine' Nm.same (by assumption) ?hq; (case hq => walk_at "hpNo"))
  | fail)
local macro_rules | `(tactic| walk_at "hpN") => `(tactic| with_reducible first
  | walk_at "hpNo"
  | (refine' Nm.of ?hq; (case hq => walk_at "hpH"))
  | fail)
local macro_rules | `(tactic| walk_at "hpPo") => `(tactic| with_reducible first
  | assumption
  | (refine' Pr.same (same_new (by assumption)) ?hq; (case hq => walk_at "hpPo"))
  | (refine' Pr.same (by assumption) ?hq; (case hq => walk_at "hpPo"))
  | fail)
local macro_rules | `(tactic| walk_at "hpP") => `(tactic| with_reducible first
  | walk_at "hpPo"
  | (refine' Pr.of ?hq; (case hq => walk_at "hpH"))
  | fail)
local macro_rules | `(tactic| walk_at "hpDo") => `(tactic| with_reducible first
  | assumption
  | exact Dq.int _ | exact Dq.bl _ | exact Dq.str _ | exact Dq.non
  | (refine' Dq.same (same_new (by assumption)) ?hq; (case hq => walk_at "hpDo"))
  | (refine' Dq.same (by assumption) ?hq; (case hq => walk_at "hpDo"))
  | fail)
local macro_rules | `(tactic| walk_at "hpD") => `(tactic| with_reducible first
  | walk_at "hpDo"
  | fail)

local macro_rules | `(tactic| walk_at "hpM") => `(tactic| with_reducible first
  | assumption
  | (refine' mk_new ?hn ?hB; (case hn => assumption); (case hB => walk_at "hpB"))
  | (refine' mk_tup ?hn ?hB; (case hn => assumption); (case hB => walk_at "hpB"))
  | (refine' same_at (mk_upd (by assumption)) ?hq; (case hq => walk_at "hpM"))
  | (refine' same_at (show Same (delH _ _) (delH _ _) by assumption) ?hq; (case hq => walk_at "hpM"))
  | (refine' same_at (mk_mono (by assumption)) ?hq; (case hq => walk_at "hpM"))
  | fail)
local macro_rules | `(tactic| walk_at "hpSM") => `(tactic| with_reducible first
  | exact Same.refl _
  | assumption
  | (refine' Same.trans ?hq (mk_upd (by assumption)); (case hq => walk_at "hpSM"))
  | (refine' Same.trans ?hq (show Same (delH _ _) (delH _ _) by assumption); (case hq => walk_at "hpSM"))
  | (refine' Same.trans ?hq (mk_mono (by assumption)); (case hq => walk_at "hpSM"))
  | fail)
local macro_rules | `(tactic| walk_at "hpB") => `(tactic| with_reducible first
  | assumption
  | (refine' bag_upd ?hq (by assumption); (case hq => walk_at "hpB"))
  | (refine' bag_same ?hq (by assumption); (case hq => walk_at "hpB"))
  | fail)
local macro_rules | `(tactic| walk_at "hpHo") => `(tactic| with_reducible first
  | assumption
  | exact upd_same
  | (refine' same_at (same_new (by assumption)) ?hq; (case hq => walk_at "hpHo"))
  | (refine' same_at (by assumption) ?hq; (case hq => walk_at "hpHo"))
  | fail)
local macro_rules | `(tactic| walk_at "hpH") => `(tactic| with_reducible first
  | walk_at "hpHo"
  | (refine' same_at mk_same ?hq; (case hq => walk_at "hpM"))
  | fail)
local macro_rules | `(tactic| walk_at "hpNo") => `(tactic| with_reducible first
  | assumption
  | (refine' Nm.ofPr ?hq; (case hq => assumption))
  | (refine' Nm.same (same_new (by assumption)) ?hq; (case hq => walk_at "hpNo"))
  | (refine' Nm.same (by assumption) ?hq; (case hq => walk_at "hpNo"))
  | fail)
local macro_rules | `(tactic| walk_at "hpNMo") => `(tactic| with_reducible first
  | assumption
  | (refine' Nm.ofPr ?hq; (case hq => assumption))
  | (refine' Nm.same (mk_upd (by assumption)) ?hq; (case hq => walk_at "hpNMo"))
  | (refine' Nm.same (show Same (delH _ _) (delH _ _) by assumption) ?hq; (case hq => walk_at "hpNMo"))
  | (refine' Nm.same (mk_mono (by assumption)) ?hq; (case hq => walk_at "hpNMo"))
  | fail)
local macro_rules | `(tactic| walk_at "hpNM") => `(tactic| with_reducible first
  | walk_at "hpNMo"
  | (refine' Nm.of ?hq; (case hq => walk_at "hpM"))
  | fail)
local macro_rules | `(tactic| walk_at "hpN") => `(tactic| with_reducible first
  | walk_at "hpNo"
  | (refine' Nm.same mk_same ?hq; (case hq => walk_at "hpNMo"))
  | (refine' Nm.of ?hq; (case hq => walk_at "hpH"))
  | fail)
local macro_rules | `(tactic| walk_at "hpPo") => `(tactic| with_reducible first
  | assumption
  | (refine' Pr.same (same_new (by assumption)) ?hq; (case hq => walk_at "hpPo"))
  | (refine' Pr.same (by assumption) ?hq; (case hq => walk_at "hpPo"))
  | fail)
local macro_rules | `(tactic| walk_at "hpPMo") => `(tactic| with_reducible first
  | assumption
  | (refine' Pr.same (mk_upd (by assumption)) ?hq; (case hq => walk_at "hpPMo"))
  | (refine' Pr.same (show Same (delH _ _) (delH _ _) by assumption) ?hq; (case hq => walk_at "hpPMo"))
  | (refine' Pr.same (mk_mono (by assumption)) ?hq; (case hq => walk_at "hpPMo"))
  | fail)
local macro_rules | `(tactic| walk_at "hpPM") => `(tactic| with_reducible first
  | walk_at "hpPMo"
  | (refine' Pr.of ?hq; (case hq => walk_at "hpM"))
  | fail)
local macro_rules | `(tactic| walk_at "hpP") => `(tactic| with_reducible first
  | walk_at "hpPo"
  | (refine' Pr.same mk_same ?hq; (case hq => walk_at "hpPMo"))
  | (refine' Pr.of ?hq; (case hq => walk_at "hpH"))
  | fail)
local macro_rules | `(tactic| walk_at "hpDo") => `(tactic| with_reducible first
  | assumption
  | exact Dq.int _ | exact Dq.bl _ | exact Dq.str _ | exact Dq.non
  | (refine' Dq.same (same_new (by assumption)) ?hq; (case hq => walk_at "hpDo"))
  | (refine' Dq.same (by assumption) ?hq; (case hq => walk_at "hpDo"))
  | fail)
local macro_rules | `(tactic| walk_at "hpDMo") => `(tactic| with_reducible first
  | assumption
  | exact Dq.int _ | exact Dq.bl _ | exact Dq.str _ | exact Dq.non
  | (refine' Dq.same (mk_upd (by assumption)) ?hq; (case hq => walk_at "hpDMo"))
  | (refine' Dq.same (show Same (delH _ _) (delH _ _) by assumption) ?hq; (case hq => walk_at "hpDMo"))
  | (refine' Dq.same (mk_mono (by assumption)) ?hq; (case hq => walk_at "hpDMo"))
  | fail)
local macro_rules | `(tactic| walk_at "hpDM") => `(tactic| with_reducible first
  | walk_at "hpDMo"
  | fail)
local macro_rules | `(tactic| walk_at "hpD") => `(tactic| with_reducible first
  | walk_at "hpDo"
  | (refine' Dq.same mk_same ?hq; (case hq => walk_at "hpDMo"))
  | fail)
local macro_rules | `(tactic| walk_at "call") => `(tactic| first
  | ((with_reducible refine' sp_draw ?_ ?h ?side1 ?side2); (case h => walk_at "hpB"); intro idraw Hd' hi0 hi1 sd' bd')
  | fail)

local macro_rules | `(tactic| walk_at "call") => `(tactic| first
  | ((with_reducible refine' sp_low ?_ ?side1 ?side2); intro tp Hp' sp' hp')
  | ((with_reducible refine' sp_draw ?_ ?h ?side1 ?side2 ?side3); (case h => walk_at "hpB"); intro idraw Hd' hi0 hi1 sd' bd')
  | fail)
section
variable {P : Program} {w : World} {K : Fg} {mg : Str → Option Value} {base : Heap} {f f1 f2 f3 : Addr} {fd : FuncData}
theorem ok_l_low (F : Fun K "_law_low" "_law_low" s_l_low f fd) (T : Blt mg) : FnOk P w K mg base CX0 1 f fd ["_law_num", "_law_den"] spLow := by
  refine F.ok sc_l_low (fun vs H Q E h => ?_) (fun cdv A outer s H vs Q E hr h => ?_)
  · obtain ⟨n, d, rfl, _⟩ := h
    rfl
  · obtain ⟨n, d, rfl, d0, sd, k⟩ := h
    refine ⟨_, (pss_cons (ps_if (pt_cmpR op_lt (pv 1) pe_int (nomark _))
      (pss_one (ps_par (i := 0) (j := 1) rfl sc_l_low.nd rfl rfl (by decide) rfl rfl (pa_cons (pe_un un_neg (pv 0)) (pa_cons (pe_un un_neg (pv 1)) pa_nil)) rfl)) pss_nil)
      (pss_cons (ps_par (i := 2) (j := 3) rfl sc_l_low.nd rfl rfl (by decide) rfl rfl (pa_cons (pe_callB cg_abs (by rfl) T.n_abs (by decide +kernel) (pa_cons (pv 0) pa_nil)) (pa_cons (pv 1) pa_nil)) rfl)
      (pss_cons (ps_while PassesOwn.never (pt_cmpR op_gt (pv 3) pe_int (nomark _))
      (pss_one (ps_par (i := 2) (j := 3) rfl sc_l_low.nd rfl rfl (by decide) rfl rfl (pa_cons (pv 3) (pa_cons (pe_op op_mod (pe_callTy cg_int (by rfl) T.n_int (by decide +kernel) (pa_cons (pv 2) pa_nil)) (pv 3)) pa_nil)) rfl)))
      (pss_one (ps_ret (pe_tup (pa_cons (pe_op op_fdivW (pv 0) (pv 2)) (pa_cons (pe_op op_fdivW (pv 1) (pv 2)) pa_nil)))))))), ?_⟩
    have nd : ¬ d < 0 := by omega
    walk_at "go"
    refine ⟨fun m σ' H' => ∃ b s : Int, σ' = [some (.int n), some (.int d), some (.int b), some (.int s)] ∧ 0 ≤ b ∧ 0 ≤ s ∧ 0 < b + s ∧ Int.gcd b s = Int.gcd n d ∧ m = s.toNat ∧ H' = H, ⟨d.toNat, _, d, rfl, ?_, by omega, ?_, ?_, rfl, rfl⟩, fun m σ H' hW => ?_⟩
    · split <;> omega
    · split <;> omega
    · split
      · exact Int.neg_gcd
      · rfl
    · obtain ⟨b, s, rfl, b0, s0, bs, hg, rfl, rfl⟩ := hW
      walk_at "go"
      refine ite2 (fun c => ?_) (fun c => ?_)
      · have c := of_decide_eq_true c
        refine ⟨fun σ'' H'' => ∃ m', m' < s.toNat ∧ ∃ b s : Int, σ'' = [some (.int n), some (.int d), some (.int b), some (.int s)] ∧ 0 ≤ b ∧ 0 ≤ s ∧ 0 < b + s ∧ Int.gcd b s = Int.gcd n d ∧ m' = s.toNat ∧ H'' = H', fun σ' H' z => z, ?_⟩
        walk_at "go"
        all_goals first
          | exact c
          | skip
        have y0 := Int.emod_nonneg b (b := s) (by omega)
        have y1 := Int.emod_lt_of_pos b c
        exact ⟨(b % s).toNat, by omega, s, b % s, rfl, by omega, y0, by omega, by rw [gcd_step b0 c]; exact hg, rfl, rfl⟩
      · have c : ¬ 0 < s := fun z => c (decide_eq_true z)
        obtain rfl : s = 0 := by omega
        have e : b = (Int.gcd n d : Nat) := by
          rw [← hg, Int.gcd_zero_right]
          omega
        subst e
        have dv : ∀ x : Int, CDivW x (Int.gcd n d : Nat) := fun x => wide_div (gcd_pos (by omega)) (Nat.lt_of_le_of_lt (gcd_le (by omega)) sd) (by decide) (by decide)
        walk_at "go"
        all_goals first
          | exact dv _
          | skip
        refine k _ _ ?_ ?_
        · walk_at "hpS"
        · exact upd_same
theorem ok_l_hand (F : Fun K "_law_hand" "_law_hand" s_l_hand f fd) (T : Blt mg) (D_l_draw : Df P w K mg base 1 "_law_draw" f1 ["_law_bag_here", "_law_many_y"] spDraw) : FnOk P w K mg base CX0 2 f fd ["_law_bag_here", "_law_p"] spHand := by
  obtain ⟨_, G_l_draw, B_l_draw⟩ := D_l_draw.ok
  refine F.ok sc_l_hand (fun vs H Q E h => ?_) (fun cdv A outer s H vs Q E hr h => ?_)
  · obtain ⟨N, b, c, t, q, rfl, _⟩ := h
    rfl
  · obtain ⟨N, b, c, t, q, rfl, B, hN, ht, k⟩ := h
    refine ⟨_, (pss_cons (ps_if (PW.pt (pw_and (pt_cmpR op_eq (pe_ix (ix_seqK K) (pv 1) pe_int (fun _ _ => rfl)) pe_int (nomark _)) (pw_and1 (pt_cmpR op_eq (pe_call G_l_draw (hr.mono (by decide)) (by rfl) D_l_draw.g D_l_draw.kp B_l_draw .nil pass0 (pa_cons (pv 0) (pa_cons pe_int pa_nil))) pe_int (nomark _)))))
      (pss_one (ps_ret (pe_ix (ix_seqK K) (pv 1) pe_int (fun _ _ => rfl)))) pss_nil)
      (pss_one (ps_ret (pv 1)))), ?_⟩
    by_cases d : q.2 = 1
    · have d' : V.int q.2 = V.int 1 := by rw [d]
      walk_at "gos"
      all_goals first
        | decide
        | omega
        | skip
      · refine k _ _ (.inr ⟨rfl, d⟩) ?_ ?_
        · walk_at "hpSM"
        · walk_at "hpB"
      · refine k _ _ ?_ ?_ ?_
        · walk_at "hpNM"
        · walk_at "hpSM"
        · walk_at "hpB"
    · have d' : ¬ V.int q.2 = V.int 1 := fun z => d (V.int.inj z)
      walk_at "go"
      refine k _ _ ?_ ?_ ?_
      · walk_at "hpNM"
      · walk_at "hpSM"
      · exact Bag.le (by walk_at "hpB") (by omega)
theorem ok_l_number (F : Fun K "_law_number" "_law_number" s_l_number f fd) (T : Blt mg) (D_l_draw : Df P w K mg base 1 "_law_draw" f1 ["_law_bag_here", "_law_many_y"] spDraw) (D_l_low : Df P w K mg base 1 "_law_low" f3 ["_law_num", "_law_den"] spLow) : FnOk P w K mg base CX0 2 f fd ["_law_bag_here"] spNumber := by
  obtain ⟨_, G_l_draw, B_l_draw⟩ := D_l_draw.ok
  obtain ⟨_, G_l_low, B_l_low⟩ := D_l_low.ok
  refine F.ok sc_l_number (fun vs H Q E h => ?_) (fun cdv A outer s H vs Q E hr h => ?_)
  · obtain ⟨N, b, c, rfl, _⟩ := h
    rfl
  · obtain ⟨N, b, c, rfl, B, hN, k⟩ := h
    refine ⟨_, (pss_cons (ps_set (i := 1) sc_l_number.nd rfl (.inl rfl) (pe_call G_l_draw (hr.mono (by decide)) (by rfl) D_l_draw.g D_l_draw.kp B_l_draw .nil pass0 (pa_cons (pv 0) (pa_cons pe_int pa_nil))))
      (pss_cons (ps_if (pt_cmpR op_eq (pv 1) pe_int (nomark _))
      (pss_one (ps_ret (pe_tup (pa_cons (pe_op op_sub (pe_call G_l_draw (hr.mono (by decide)) (by rfl) D_l_draw.g D_l_draw.kp B_l_draw .nil pass0 (pa_cons (pv 0) (pa_cons pe_int pa_nil))) pe_int) (pa_cons pe_int pa_nil))))) pss_nil)
      (pss_cons (ps_if (pt_cmpR op_gt (pv 1) pe_int (nomark _))
      (pss_one (ps_ret (pe_call G_l_low (hr.mono (by decide)) (by rfl) D_l_low.g D_l_low.kp B_l_low .nil pass0 (pa_cons (pe_op op_sub (pe_call G_l_draw (hr.mono (by decide)) (by rfl) D_l_draw.g D_l_draw.kp B_l_draw .nil pass0 (pa_cons (pv 0) (pa_cons pe_int pa_nil))) pe_int) (pa_cons (pe_op op_add pe_int (pe_call G_l_draw (hr.mono (by decide)) (by rfl) D_l_draw.g D_l_draw.kp B_l_draw .nil pass0 (pa_cons (pv 0) (pa_cons pe_int pa_nil)))) pa_nil))))) pss_nil)
      (pss_one (ps_ret (pe_tup (pa_cons (pe_op op_sub (pe_call G_l_draw (hr.mono (by decide)) (by rfl) D_l_draw.g D_l_draw.kp B_l_draw .nil pass0 (pa_cons (pv 0) (pa_cons pe_int pa_nil))) pe_int) (pa_cons pe_int pa_nil)))))))), ?_⟩
    walk_at "gos"
    all_goals first
      | exact up8900 (by omega)
      | omega
      | skip
    · refine' k _ (_, 1) _ ?h1 ?h2 ?h3 ?h4
      case h1 => walk_at "hpM"
      case h2 => exact small_int (by omega)
      case h3 => walk_at "hpSM"
      case h4 => exact Bag.le (by walk_at "hpB") (by omega)
    · refine' k _ _ _ ?h1 ?h2 ?h3 ?h4
      case h1 => walk_at "hpM"
      case h2 => exact low_small (by omega) (by omega) (by omega)
      case h3 => walk_at "hpSM"
      case h4 => exact Bag.le (by walk_at "hpB") (by omega)
    · refine' k _ (_, 1) _ ?h1 ?h2 ?h3 ?h4
      case h1 => walk_at "hpM"
      case h2 => exact small_int (by omega)
      case h3 => walk_at "hpSM"
      case h4 => exact Bag.le (by walk_at "hpB") (by omega)
end
end Ko


namespace Ko
open PySem L2 PySem.Spec PyProof.Rows Xm
abbrev Cn := Pq × Pq × Pq
abbrev Fc := Int × Int × Int
abbrev Z3 := Int × Int × Int
def cnD (c : Cn) : Dt := .tup [.pq c.1, .pq c.2.1, .pq c.2.2]
def fcD (f : Fc) : Dt := .tup [.int f.1, .int f.2.1, .int f.2.2]
def det3 (a b c : Z3) : Int := a.1 * (b.2.1 * c.2.2 - b.2.2 * c.2.1) + a.2.1 * (b.2.2 * c.1 - b.1 * c.2.2) + a.2.2 * (b.1 * c.2.1 - b.2.1 * c.1)
abbrev BB : Nat := 100000000
abbrev B3 : Nat := 6000000000000000000000000
abbrev D3 : Int := 27720 * (27720 * 27720)
/-- a corner's tuple -/
def Co (H : Hp) (v : V) (z : Z3) : Prop := ∃ a x y w, v = .ref a ∧ H a = some (.tup [x, y, w]) ∧ Nr H x 27720 BB z.1 ∧ Nr H y 27720 BB z.2.1 ∧ Nr H w 27720 BB z.2.2
theorem Co.same {H H' : Hp} {v : V} {z : Z3} (s : Same H H') (h : Co H v z) : Co H' v z := by
  obtain ⟨a, x, y, w, e, h0, h1, h2, h3⟩ := h
  exact ⟨a, x, y, w, e, s _ _ h0, h1.same s, h2.same s, h3.same s⟩
def spDet : Sp := fun vs H Q _ => ∃ x y z za zb zc, vs = [x, y, z] ∧ Co H x za ∧ Co H y zb ∧ Co H z zc ∧ ∀ t H', Same H H' → Nr H' (.ref t) D3 B3 (det3 za zb zc) → Q (.ref t) H'

local macro_rules | `(tactic| walk_at "hpS") => `(tactic| with_reducible first
  | exact Same.refl _
  | assumption
  | (refine' Same.trans ?hq (same_new (by assumption)); (case hq => walk_at "hpS"))
  | (refine' Same.trans ?hq (by assumption); (case hq => walk_at "hpS"))
  | fail)
local macro_rules | `(tactic| walk_at "hpH") => `(tactic| with_reducible first
  | assumption
  | exact upd_same
  | (refine' same_at (same_new (by assumption)) ?hq; (case hq => walk_at "hpH"))
  | (refine' same_at (by assumption) ?hq; (case hq => walk_at "hpH"))
  | fail)
local macro_rules | `(tactic| walk_at "hpTo") => `(tactic| with_reducible first
  | assumption
  | (refine' sq_t (same_new (by assumption)) ?hq; (case hq => walk_at "hpTo"))
  | (refine' sq_t (by assumption) ?hq; (case hq => walk_at "hpTo"))
  | fail)
local macro_rules | `(tactic| walk_at "hpT") => `(tactic| with_reducible first
  | (refine' SqT.of ?hq; (case hq => walk_at "hpH"))
  | walk_at "hpTo"
  | fail)
local macro_rules | `(tactic| walk_at "hpLo") => `(tactic| with_reducible first
  | assumption
  | (refine' sq_l (same_new (by assumption)) ?hq; (case hq => walk_at "hpLo"))
  | (refine' sq_l (by assumption) ?hq; (case hq => walk_at "hpLo"))
  | fail)
local macro_rules | `(tactic| walk_at "hpL") => `(tactic| with_reducible first
  | (refine' SqL.of ?hq; (case hq => walk_at "hpH"))
  | walk_at "hpLo"
  | fail)
local macro_rules | `(tactic| walk_at "kit") => `(tactic| with_reducible first
  | exact kit_int_bool | exact kit_int_int | exact kit_int_tuple | exact kit_int_list | exact kit_int_str
  | exact kit_tuple_tuple | exact kit_tuple_int | exact kit_tuple_bool | exact kit_tuple_list | exact kit_tuple_str
  | exact kit_bool_bool | exact kit_bool_int | exact kit_bool_tuple | exact kit_bool_list | exact kit_bool_str
  | exact kit_str_str | exact kit_str_int | exact kit_str_bool | exact kit_str_tuple | exact kit_str_list
  | exact kit_NoneType_int | exact kit_NoneType_bool | exact kit_NoneType_tuple | exact kit_NoneType_list | exact kit_NoneType_str
  | exact kit_list_list | exact kit_list_tuple | exact kit_list_int | exact kit_list_bool | exact kit_list_str
  | fail)
local macro_rules | `(tactic| walk_at "call") => `(tactic| fail)
local macro_rules | `(tactic| walk_at "s0") => `(tactic| with_reducible first
  | refine g_seq ?_ | refine g_asg ?_ | refine g_name ?_ | refine g_ifS ?_ | refine g_ret ?_ | refine g_retN ?_ | refine g_next ?_
  | refine g_par ?_ | refine g_parE ?_ | refine g_drop ?_
  | refine g_c ?_ | refine g_op ?_ | refine g_un ?_ | refine g_cb ?_ | refine g_call ?_ | refine g_nil ?_ | refine g_cons ?_ | refine g_tup ?_ | refine g_lst ?_
  | refine g_test ?_ | refine g_B ?_ | refine g_blF ?_ | refine g_and ?_ | refine g_or ?_ | refine g_not ?_ | refine g_andV ?_ | refine g_orV ?_ | refine g_notV ?_ | refine g_if ?_
  | refine iteT ?_ | refine iteF ?_
  | refine g_chain ?_ | refine g_sl ?_ | refine g_noPart ?_ | refine g_part ?_ | refine g_partI ?_ | refine g_slS ?_ ?side | refine g_M1 ?_ | refine g_M1s ?_ | refine g_starts ?_ | refine g_bm ?_ | refine g_bm0 ?_ | refine g_tyS ?_
  | refine g_Fs ?_ | refine g_JsN ?_ | refine g_JsC ?_ | refine g_JsE ?_ ?side | refine g_fmt ?_ | refine g_fmtI ?_ ?side | refine g_fmtS ?_ ?side | refine g_iList ?_ | refine g_iTup ?_ | refine g_iStr ?_ | refine g_iStrE ?_ | refine g_iRng1 ?_ | refine g_iRng1E ?_ ?side1 ?side2 | refine g_yes ?_ | refine g_ckw ?_ | refine g_dget ?_ | refine g_dictZip ?_ | refine g_gCons ?_ | refine g_gNil ?_ | refine g_revL ?_ | refine g_for ?_ | refine g_lc ?_ | refine g_addS ?_ ?side | refine g_str ?_ ?side | refine g_lenS ?_ ?side
  | refine g_rI0 ?_ | refine g_rI ?_ ?side | refine g_rU ?_ | refine g_abs ?_ | refine g_int ?_ | refine g_intB ?_ | refine g_gcd ?_ | refine g_inS ?_ | refine g_isN0 ?_ | refine g_notN0 ?_
  | fail)
local macro_rules | `(tactic| walk_at "s1") => `(tactic| first
  | ((with_reducible refine' g_var ?h ?_); (case h => exact rfl))
  | ((with_reducible refine' g_new ?h ?_); (case h => exact (by simp only [List.length_cons, List.length_nil]; decide)); intro tnew htnew)
  | ((with_reducible refine' iteDT ?h ?_); (case h => first | exact rfl | assumption))
  | ((with_reducible refine' iteNT ?h ?_); (case h => first | exact rfl | assumption))
  | ((with_reducible refine' iteDF ?h ?_); (case h => first | assumption | (intro z; cases z)))
  | ((with_reducible refine' iteNF ?h ?_); (case h => first | assumption | (intro z; cases z)))
  | ((with_reducible refine' g_eq ?_ ?h); (case h => exact rfl))
  | ((with_reducible refine' g_ne ?_ ?h); (case h => exact rfl))
  | ((with_reducible refine' g_ixT ?_ ?h ?e); (case h => walk_at "hpT"); (case e => first | exact rfl | exact atI_0 | exact atI_1))
  | ((with_reducible refine' g_ixL ?_ ?h ?e); (case h => walk_at "hpL"); (case e => first | exact rfl | exact atI_0 | exact atI_1))
  | ((with_reducible refine' g_isi_int ?_ ?h); (case h => walk_at "kit"))
  | ((with_reducible refine' g_isi_str ?_ ?h); (case h => walk_at "kit"))
  | ((with_reducible refine' g_isi_bl ?_ ?h); (case h => walk_at "kit"))
  | ((with_reducible refine' g_isi_non ?_ ?h); (case h => walk_at "kit"))
  | ((with_reducible refine' g_isi_t ?_ ?t ?h); (case t => walk_at "hpT"); (case h => walk_at "kit"))
  | ((with_reducible refine' g_isi_l ?_ ?t ?h ?l); (case l => walk_at "hpH"); (case t => walk_at "hpL"); (case h => walk_at "kit"))
  | ((with_reducible refine' g_lenT ?_ ?h); (case h => walk_at "hpT"))
  | ((with_reducible refine' g_lenL ?_ ?h); (case h => walk_at "hpL"))
  | ((with_reducible refine' g_split ?_ ?h ?side); (case h => exact rfl); intro pnew hpnew)
  | ((with_reducible refine' g_slL ?h ?_); (case h => walk_at "hpL"); intro pnew hpnew)
  | ((with_reducible refine' g_iListE ?_ ?h); (case h => walk_at "hpL"))
  | ((with_reducible refine' g_iTupE ?_ ?h); (case h => walk_at "hpT"))
  | ((with_reducible refine' g_tyL ?_ ?h); (case h => walk_at "hpL"))
  | ((with_reducible refine' g_join ?_ ?h ?side); (case h => walk_at "hpL"))
  | ((with_reducible refine' g_append ?_ ?h ?side); (case h => walk_at "hpH"))
  | ((with_reducible refine' g_all ?_ ?h); (case h => walk_at "hpL"))
  | ((with_reducible refine' g_gTup ?_ ?h ?n); (case h => walk_at "hpT"); (case n => exact rfl))
  | ((with_reducible refine' g_revLE ?h ?_); (case h => walk_at "hpL"); intro pnew hpnew)
  | ((with_reducible refine' g_isN1 ?_ ?h); (case h => first | assumption | (intro z; cases z)))
  | ((with_reducible refine' g_notN1 ?_ ?h); (case h => first | assumption | (intro z; cases z)))
  | walk_at "call"
  | ((with_reducible refine' iteBT ?h ?_); (case h => first | assumption | exact rfl))
  | ((with_reducible refine' iteBF ?h ?_); (case h => first | assumption | exact rfl))
  | fail)
local macro_rules | `(tactic| walk_at "nrm") => `(tactic| simp only [Bool.not_true, Bool.not_false, decide_eq_true_eq, decide_true, decide_false, Bool.true_and, Bool.false_and, Bool.and_true, Bool.and_false, V.int.injEq, V.bl.injEq, V.str.injEq, List.length_cons, List.length_nil, Bool.not_eq_true', decide_eq_false_iff_not, Int.not_lt, Int.not_le, reduceCtorEq, not_false_eq_true, not_true_eq_false, Decidable.not_not] at *)
local macro_rules | `(tactic| walk_at "sp") => `(tactic| ((with_reducible refine ite2 (fun c => ?_) (fun c => ?_)) <;> (try simp only [decide_eq_true_eq, Bool.not_eq_true', decide_eq_false_iff_not, V.int.injEq, V.bl.injEq, V.str.injEq, Int.not_lt, Int.not_le, reduceCtorEq, Decidable.not_not, Bool.false_eq_true, Bool.true_eq_false] at c) <;> (try (exfalso; omega))))
local macro_rules | `(tactic| walk_at "s") => `(tactic| first | walk_at "s0" | walk_at "s1" | fail)
local macro_rules | `(tactic| walk_at "go") => `(tactic| (try dsimp only [cxK, cxK']); repeat' walk_at "s")
local macro_rules | `(tactic| walk_at "gos") => `(tactic| ((try dsimp only [cxK, cxK']); repeat' (first | walk_at "s" | walk_at "sp" | fail)))

local macro_rules | `(tactic| walk_at "hpNo") => `(tactic| with_reducible first
  | assumption
  | (refine' Nm.ofPr ?hq; (case hq => assumption))
  | (refine' Nm.same (same_new (by assumption)) ?hq; (case hq => walk_at "hpNo"))
  | (refine' Nm.same (by assumption) ?hq; (case hq => walk_at "hpNo"))
  | fail)
local macro_rules | `(tactic| walk_at "hpN") => `(tactic| with_reducible first
  | walk_at "hpNo"
  | (refine' Nm.of ?hq; (case hq => walk_at "hpH"))
  | fail)
local macro_rules | `(tactic| walk_at "hpPo") => `(tactic| with_reducible first
  | assumption
  | (refine' Pr.same (same_new (by assumption)) ?hq; (case hq => walk_at "hpPo"))
  | (refine' Pr.same (by assumption) ?hq; (case hq => walk_at "hpPo"))
  | fail)
local macro_rules | `(tactic| walk_at "hpP") => `(tactic| with_reducible first
  | walk_at "hpPo"
  | (refine' Pr.of ?hq; (case hq => walk_at "hpH"))
  | fail)
local macro_rules | `(tactic| walk_at "hpDo") => `(tactic| with_reducible first
  | assumption
  | exact Dq.int _ | exact Dq.bl _ | exact Dq.str _ | exact Dq.non
  | (refine' Dq.same (same_new (by assumption)) ?hq; (case hq => walk_at "hpDo"))
  | (refine' Dq.same (by assumption) ?hq; (case hq => walk_at "hpDo"))
  | fail)
local macro_rules | `(tactic| walk_at "hpD") => `(tactic| with_reducible first
  | walk_at "hpDo"
  | fail)

local macro_rules | `(tactic| walk_at "hpR") => `(tactic| with_reducible first
  | assumption
  | (refine' Nr.same (same_new (by assumption)) ?hq; (case hq => walk_at "hpR"))
  | (refine' Nr.same (by assumption) ?hq; (case hq => walk_at "hpR"))
  | fail)
local macro_rules | `(tactic| walk_at "call") => `(tactic| first
  | ((with_reducible refine' sp_times ?_ (Nr.na ?h1) (Nr.na ?h2) ?side1 ?side2); (case h1 => walk_at "hpR"); (case h2 => walk_at "hpR"); intro tp Hp' sp' hp')
  | ((with_reducible refine' sp_minus ?_ (Nr.na ?h1) (Nr.na ?h2) ?side1); (case h1 => walk_at "hpR"); (case h2 => walk_at "hpR"); intro tp Hp' sp' hp')
  | ((with_reducible refine' sp_plus ?_ (Nr.na ?h1) (Nr.na ?h2) ?side1); (case h1 => walk_at "hpR"); (case h2 => walk_at "hpR"); intro tp Hp' sp' hp')
  | ((with_reducible refine' sp_lmul ?_ ?h1 ?h2 ?side1 ?side2); (case h1 => walk_at "hpR"); (case h2 => walk_at "hpR"); intro tp Hp' sp' hp')
  | ((with_reducible refine' sp_lsub ?_ ?h1 ?h2 ?side1); (case h1 => walk_at "hpR"); (case h2 => walk_at "hpR"); intro tp Hp' sp' hp')
  | ((with_reducible refine' sp_ladd ?_ ?h1 ?h2 ?side1); (case h1 => walk_at "hpR"); (case h2 => walk_at "hpR"); intro tp Hp' sp' hp')
  | fail)
theorem nr_zero {H : Hp} {t : Addr} {D : Int} {B : Nat} (h : H t = some (.tup [.int 0, .int 1])) : Nr H (.ref t) D B 0 := ⟨(0, 1), ⟨t, rfl, h⟩, (Is.int (D := D) 0).eq (by omega), Nat.zero_le _⟩
section
variable {P : Program} {w : World} {K : Fg} {mg : Str → Option Value} {base : Heap} {f f1 f2 f3 : Addr} {fd : FuncData}
theorem ok_determinant (F : Fun K "determinant" "determinant" s_determinant f fd) (T : Blt mg) (D_plus : Df P w K mg base 2 "plus" f1 ["a", "b"] (spOp add)) (D_minus : Df P w K mg base 2 "minus" f2 ["a", "b"] (spOp sub)) (D_times : Df P w K mg base 2 "times" f3 ["a", "b"] (spOp mul)) : FnOk P w K mg base CX0 3 f fd ["p", "q", "r"] spDet := by
  obtain ⟨_, G_plus, B_plus⟩ := D_plus.ok
  obtain ⟨_, G_minus, B_minus⟩ := D_minus.ok
  obtain ⟨_, G_times, B_times⟩ := D_times.ok
  refine F.ok sc_determinant (fun vs H Q E h => ?_) (fun cdv A outer s H vs Q E hr h => ?_)
  · obtain ⟨x, y, z, za, zb, zc, rfl, _⟩ := h
    rfl
  · obtain ⟨_, _, _, za, zb, zc, rfl, ⟨a, a0, a1, a2, rfl, ha, ha0, ha1, ha2⟩, ⟨b, b0, b1, b2, rfl, hb, hb0, hb1, hb2⟩, ⟨c, c0, c1, c2, rfl, hc, hc0, hc1, hc2⟩, k⟩ := h
    refine ⟨_, (pss_cons (ps_set (i := 3) sc_determinant.nd rfl (.inl rfl) (pe_call G_times (hr.mono (by decide)) (by rfl) D_times.g D_times.kp B_times .nil pass0 (pa_cons (pe_ix (ix_seqK K) (pv 0) pe_int (fun _ _ => rfl)) (pa_cons (pe_call G_minus (hr.mono (by decide)) (by rfl) D_minus.g D_minus.kp B_minus .nil pass0 (pa_cons (pe_call G_times (hr.mono (by decide)) (by rfl) D_times.g D_times.kp B_times .nil pass0 (pa_cons (pe_ix (ix_seqK K) (pv 1) pe_int (fun _ _ => rfl)) (pa_cons (pe_ix (ix_seqK K) (pv 2) pe_int (fun _ _ => rfl)) pa_nil))) (pa_cons (pe_call G_times (hr.mono (by decide)) (by rfl) D_times.g D_times.kp B_times .nil pass0 (pa_cons (pe_ix (ix_seqK K) (pv 1) pe_int (fun _ _ => rfl)) (pa_cons (pe_ix (ix_seqK K) (pv 2) pe_int (fun _ _ => rfl)) pa_nil))) pa_nil))) pa_nil))))
      (pss_cons (ps_set (i := 4) sc_determinant.nd rfl (.inl rfl) (pe_call G_times (hr.mono (by decide)) (by rfl) D_times.g D_times.kp B_times .nil pass0 (pa_cons (pe_ix (ix_seqK K) (pv 0) pe_int (fun _ _ => rfl)) (pa_cons (pe_call G_minus (hr.mono (by decide)) (by rfl) D_minus.g D_minus.kp B_minus .nil pass0 (pa_cons (pe_call G_times (hr.mono (by decide)) (by rfl) D_times.g D_times.kp B_times .nil pass0 (pa_cons (pe_ix (ix_seqK K) (pv 1) pe_int (fun _ _ => rfl)) (pa_cons (pe_ix (ix_seqK K) (pv 2) pe_int (fun _ _ => rfl)) pa_nil))) (pa_cons (pe_call G_times (hr.mono (by decide)) (by rfl) D_times.g D_times.kp B_times .nil pass0 (pa_cons (pe_ix (ix_seqK K) (pv 1) pe_int (fun _ _ => rfl)) (pa_cons (pe_ix (ix_seqK K) (pv 2) pe_int (fun _ _ => rfl)) pa_nil))) pa_nil))) pa_nil))))
      (pss_cons (ps_set (i := 5) sc_determinant.nd rfl (.inl rfl) (pe_call G_times (hr.mono (by decide)) (by rfl) D_times.g D_times.kp B_times .nil pass0 (pa_cons (pe_ix (ix_seqK K) (pv 0) pe_int (fun _ _ => rfl)) (pa_cons (pe_call G_minus (hr.mono (by decide)) (by rfl) D_minus.g D_minus.kp B_minus .nil pass0 (pa_cons (pe_call G_times (hr.mono (by decide)) (by rfl) D_times.g D_times.kp B_times .nil pass0 (pa_cons (pe_ix (ix_seqK K) (pv 1) pe_int (fun _ _ => rfl)) (pa_cons (pe_ix (ix_seqK K) (pv 2) pe_int (fun _ _ => rfl)) pa_nil))) (pa_cons (pe_call G_times (hr.mono (by decide)) (by rfl) D_times.g D_times.kp B_times .nil pass0 (pa_cons (pe_ix (ix_seqK K) (pv 1) pe_int (fun _ _ => rfl)) (pa_cons (pe_ix (ix_seqK K) (pv 2) pe_int (fun _ _ => rfl)) pa_nil))) pa_nil))) pa_nil))))
      (pss_one (ps_ret (pe_call G_plus (hr.mono (by decide)) (by rfl) D_plus.g D_plus.kp B_plus .nil pass0 (pa_cons (pe_call G_plus (hr.mono (by decide)) (by rfl) D_plus.g D_plus.kp B_plus .nil pass0 (pa_cons (pv 3) (pa_cons (pv 4) pa_nil))) (pa_cons (pv 5) pa_nil)))))))), ?_⟩
    walk_at "go"
    all_goals first
      | exact ⟨by decide +kernel, by decide +kernel, by decide +kernel, by decide +kernel⟩
      | skip
    rename_i hz
    exact k _ _ (by walk_at "hpS") ((hz.mono (by decide +kernel)).eq rfl)
theorem ok_l_det (F : Fun K "_law_det" "_law_det" s_l_det f fd) (T : Blt mg) (D_l_add : Df P w K mg base 2 "_law_add" f1 ["_law_p", "_law_q"] (spLop add)) (D_l_sub : Df P w K mg base 3 "_law_sub" f2 ["_law_p", "_law_q"] (spLop sub)) (D_l_mul : Df P w K mg base 2 "_law_mul" f3 ["_law_p", "_law_q"] (spLop mul)) : FnOk P w K mg base CX0 4 f fd ["_law_a", "_law_b", "_law_third"] spDet := by
  obtain ⟨_, G_l_add, B_l_add⟩ := D_l_add.ok
  obtain ⟨_, G_l_sub, B_l_sub⟩ := D_l_sub.ok
  obtain ⟨_, G_l_mul, B_l_mul⟩ := D_l_mul.ok
  refine F.ok sc_l_det (fun vs H Q E h => ?_) (fun cdv A outer s H vs Q E hr h => ?_)
  · obtain ⟨x, y, z, za, zb, zc, rfl, _⟩ := h
    rfl
  · obtain ⟨_, _, _, za, zb, zc, rfl, ⟨a, a0, a1, a2, rfl, ha, ha0, ha1, ha2⟩, ⟨b, b0, b1, b2, rfl, hb, hb0, hb1, hb2⟩, ⟨c, c0, c1, c2, rfl, hc, hc0, hc1, hc2⟩, k⟩ := h
    refine ⟨_, (pss_cons (ps_set (i := 3) sc_l_det.nd rfl (.inl rfl) (pe_tup (pa_cons pe_int (pa_cons pe_int pa_nil))))
      (pss_cons (ps_for PassesOwn.never rfl (pi_range1 (by rfl) T.n_range (pa_cons pe_int pa_nil)) (pg_name (i := 4) sc_l_det.nd rfl (.inl rfl))
      (pss_cons (ps_par (i := 5) (j := 6) rfl sc_l_det.nd rfl rfl (by decide) rfl rfl (pa_cons (pe_op op_mod (pe_callTy cg_int (by rfl) T.n_int (by decide +kernel) (pa_cons (pe_op op_add (pv 4) pe_int) pa_nil)) pe_int) (pa_cons (pe_op op_mod (pe_callTy cg_int (by rfl) T.n_int (by decide +kernel) (pa_cons (pe_op op_add (pv 4) pe_int) pa_nil)) pe_int) pa_nil)) rfl)
      (pss_cons (ps_set (i := 7) sc_l_det.nd rfl (.inl rfl) (pe_call G_l_sub (hr.mono (by decide)) (by rfl) D_l_sub.g D_l_sub.kp B_l_sub .nil pass0 (pa_cons (pe_call G_l_mul (hr.mono (by decide)) (by rfl) D_l_mul.g D_l_mul.kp B_l_mul .nil pass0 (pa_cons (pe_ix (ix_seqK K) (pv 1) (pv 5) (fun _ _ => rfl)) (pa_cons (pe_ix (ix_seqK K) (pv 2) (pv 6) (fun _ _ => rfl)) pa_nil))) (pa_cons (pe_call G_l_mul (hr.mono (by decide)) (by rfl) D_l_mul.g D_l_mul.kp B_l_mul .nil pass0 (pa_cons (pe_ix (ix_seqK K) (pv 1) (pv 6) (fun _ _ => rfl)) (pa_cons (pe_ix (ix_seqK K) (pv 2) (pv 5) (fun _ _ => rfl)) pa_nil))) pa_nil))))
      (pss_one (ps_set (i := 3) sc_l_det.nd rfl (.inl rfl) (pe_call G_l_add (hr.mono (by decide)) (by rfl) D_l_add.g D_l_add.kp B_l_add .nil pass0 (pa_cons (pv 3) (pa_cons (pe_call G_l_mul (hr.mono (by decide)) (by rfl) D_l_mul.g D_l_mul.kp B_l_mul .nil pass0 (pa_cons (pe_ix (ix_seqK K) (pv 0) (pv 4) (fun _ _ => rfl)) (pa_cons (pv 7) pa_nil))) pa_nil))))))))
      (pss_one (ps_ret (pv 3))))), ?_⟩
    walk_at "go"
    any_goals omega
    rename_i t0 nt0
    have s0 := same_new (o := .tup [.int 0, .int 1]) nt0
    have z0 : Nr (upd H t0 (.tup [.int 0, .int 1])) (.ref t0) D3 0 0 := nr_zero upd_same
    generalize upd H t0 (.tup [.int 0, .int 1]) = H1 at s0 z0
    refine for_range (lo := 0) (n := 3) (fun i σ H' => ∃ (t : Addr) (v4 v5 v6 v7 : Option V), σ = [some (.ref a), some (.ref b), some (.ref c), some (.ref t), v4, v5, v6, v7] ∧ Same H H' ∧
      Nr H' (.ref t) D3 (i * 2000000000000000000000000) (match i with
        | 0 => 0
        | 1 => za.1 * (zb.2.1 * zc.2.2 - zb.2.2 * zc.2.1)
        | 2 => za.1 * (zb.2.1 * zc.2.2 - zb.2.2 * zc.2.1) + za.2.1 * (zb.2.2 * zc.1 - zb.1 * zc.2.2)
        | _ => det3 za zb zc)) ⟨t0, none, none, none, none, rfl, s0, z0⟩ (fun i σ H' hi h => ?_) (fun σ H' h => ?_)
    · obtain ⟨t, v4, v5, v6, v7, rfl, s1, hz⟩ := h
      have i3 : i = 0 ∨ i = 1 ∨ i = 2 := by omega
      rcases i3 with rfl | rfl | rfl
      all_goals
        have hz : Nr H' (.ref t) D3 _ _ := hz
        walk_at "go"
        all_goals first
          | exact ⟨by decide +kernel, by decide +kernel, by decide +kernel, by decide +kernel⟩
          | (show (0 : Int) < 3; decide)
          | skip
        rename_i hz2
        refine ⟨_, _, _, _, _, rfl, by walk_at "hpS", (hz2.mono (by decide +kernel)).eq ?_⟩
        first | rfl | (simp; done)
    · obtain ⟨t, v4, v5, v6, v7, rfl, s1, hz⟩ := h
      walk_at "go"
      exact k _ _ s1 (hz.mono (by decide +kernel))
end
end Ko


namespace Ko
open PySem L2 PySem.Spec PyProof.Rows Xm
abbrev Ed := Int × Int
def stepsOf (f : Fc) : List Ed := [(f.1, f.2.1), (f.2.1, f.2.2), (f.2.2, f.1)].filter fun s => !decide (s.1 = s.2)
def edgeOf (s : Ed) : Ed := (if s.2 < s.1 then s.2 else s.1, if s.2 > s.1 then s.2 else s.1)
def valI (es : List (Ed × Int)) (k : Ed) : Int := ((es.find? fun e => decide (e.1 = k)).map (·.2)).getD 0
def putI (es : List (Ed × Int)) (k : Ed) (n : Int) : List (Ed × Int) := if (es.any fun e => decide (e.1 = k)) = true then es.map fun e => if e.1 = k then (e.1, n) else e else es ++ [(k, n)]
def bump (es : List (Ed × Int)) (s : Ed) : List (Ed × Int) := putI es (edgeOf s) (valI es (edgeOf s) + (if s = edgeOf s then 1 else -1))
def countF (es : List (Ed × Int)) (f : Fc) : List (Ed × Int) := (stepsOf f).foldl bump es
def countAll (fs : List Fc) : List (Ed × Int) := fs.foldl countF []
def entE (e : Ed × Int) : List Key × V := (kE e.1, .int e.2)
theorem ent_any (k : Ed) : ∀ es : List (Ed × Int), ((es.map entE).any fun kv => decide (kv.1 = kE k)) = es.any fun e => decide (e.1 = k)
  | [] => rfl
  | e :: es => by
    rw [List.map_cons, List.any_cons, List.any_cons, ent_any k es]
    congr 1
    by_cases h : e.1 = k
    · rw [decide_eq_true h, decide_eq_true (show (entE e).1 = kE k from congrArg kE h)]
    · rw [decide_eq_false h, decide_eq_false (show ¬ (entE e).1 = kE k from fun z => h (kE_inj z))]
theorem ent_val (k : Ed) : ∀ es : List (Ed × Int), valV (es.map entE) (kE k) = (es.find? fun e => decide (e.1 = k)).map fun e => V.int e.2
  | [] => rfl
  | e :: es => by
    rw [List.map_cons, List.find?_cons]
    by_cases h : e.1 = k
    · rw [decide_eq_true h, valV_pos (show (entE e).1 = kE k from congrArg kE h)]
      rfl
    · rw [decide_eq_false h, valV_neg (show ¬ (entE e).1 = kE k from fun z => h (kE_inj z)), ent_val k es]
theorem ent_put (k : Ed) (n : Int) (es : List (Ed × Int)) : putK (es.map entE) (kE k) (.int n) = (putI es k n).map entE := by
  unfold putK putI
  rw [ent_any]
  split
  · rw [List.map_map, List.map_map]
    refine List.map_congr_left fun e _ => ?_
    show (if (entE e).1 = kE k then ((entE e).1, V.int n) else entE e) = entE (if e.1 = k then (e.1, n) else e)
    by_cases h : e.1 = k
    · rw [if_pos h, if_pos (show (entE e).1 = kE k from congrArg kE h)]
      rfl
    · rw [if_neg h, if_neg (show ¬ (entE e).1 = kE k from fun z => h (kE_inj z))]
  · rw [List.map_append]
    rfl
theorem ent_getD (k : Ed) (es : List (Ed × Int)) : (valV (es.map entE) (kE k)).getD (.int 0) = .int (valI es k) := by
  rw [ent_val]
  unfold valI
  cases es.find? fun e => decide (e.1 = k) <;> rfl
theorem putI_len (es : List (Ed × Int)) (k : Ed) (n : Int) : (putI es k n).length ≤ es.length + 1 := by
  unfold putI
  split
  · rw [List.length_map]
    omega
  · rw [List.length_append]
    exact Nat.le_refl _
theorem bumps_len : ∀ (l : List Ed) (es : List (Ed × Int)), (l.foldl bump es).length ≤ es.length + l.length
  | [], es => Nat.le_refl _
  | s :: l, es => by
    rw [List.foldl_cons, List.length_cons]
    have h1 := bumps_len l (bump es s)
    have h2 : (bump es s).length ≤ es.length + 1 := putI_len _ _ _
    omega
theorem steps_len (f : Fc) : (stepsOf f).length ≤ 3 := Nat.le_trans (List.length_filter_le ..) (Nat.le_refl 3)
theorem find_mem {es : List (Ed × Int)} {k : Ed} (h : k ∈ es.map (·.1)) : ∃ e, es.find? (fun e => decide (e.1 = k)) = some e ∧ e ∈ es ∧ e.1 = k := by
  obtain ⟨e, he, rfl⟩ := List.mem_map.mp h
  cases g : es.find? (fun x => decide (x.1 = e.1)) with
  | none =>
    have := List.find?_eq_none.mp g e he
    simp at this
  | some x =>
    have g2 := List.find?_some g
    exact ⟨x, rfl, List.mem_of_find?_eq_some g, by simpa using g2⟩
theorem ent_some {es : List (Ed × Int)} {k : Ed} (h : k ∈ es.map (·.1)) : valV (es.map entE) (kE k) = some (.int (valI es k)) := by
  obtain ⟨e, g, _⟩ := find_mem h
  rw [ent_val]
  unfold valI
  rw [g]
  rfl
def rowD (es : List (Ed × Int)) (k : Ed) : Dt := .tup [.int k.1, .int k.2, .int (valI es k)]
def rowsOf (fs : List Fc) (ks : List Ed) : List Ed := ks.filter fun k => !decide (valI (countAll fs) k = 0)
/-- ks: the keys, in order -/
def KeysOf (fs : List Fc) (ks : List Ed) : Prop := ks.Perm ((countAll fs).map (·.1)) ∧ ks.Pairwise fun x y => SrtO.lexB y x = false
theorem rows_none {fs : List Fc} (h : ∀ e ∈ countAll fs, e.2 = 0) {ks : List Ed} (hk : KeysOf fs ks) : rowsOf fs ks = [] := by
  refine List.filter_eq_nil_iff.mpr fun k hm => ?_
  obtain ⟨e, g, he, _⟩ := find_mem (hk.1.mem_iff.mp hm)
  have : valI (countAll fs) k = 0 := by
    unfold valI
    rw [g]
    exact h e he
  rw [this]
  decide
/-- steps as a list of tuples -/
def Sps (H : Hp) (ys : List V) (l : List Ed) : Prop := Paired (fun v (s : Ed) => ∃ u, v = .ref u ∧ H u = some (.tup [.int s.1, .int s.2])) ys l
def spSteps : Sp := fun vs H Q _ => ∃ t f, vs = [.ref t] ∧ H t = some (.tup [.int (f : Fc).1, .int f.2.1, .int f.2.2]) ∧ ∀ D ys H', Same H H' → H' D = some (.lst ys) → Sps H' ys (stepsOf f) → Q (.ref D) H'
def spEdge : Sp := fun vs H Q _ => ∃ t s, vs = [.ref t] ∧ H t = some (.tup [.int (s : Ed).1, .int s.2]) ∧ ∀ u H', Same H H' → H' u = some (.tup [.int (edgeOf s).1, .int (edgeOf s).2]) → Q (.ref u) H'
def spSurp : Sp := fun vs H Q _ => ∃ a xs fs, vs = [.ref a] ∧ SeqV H a xs ∧ DqAll H xs (fs.map fcD) ∧ fs.length ≤ 1000 ∧ ∀ D ys ks H', Same H H' → KeysOf fs ks → H' D = some (.lst ys) → DqAll H' ys ((rowsOf fs ks).map (rowD (countAll fs))) → Q (.ref D) H'
theorem fc_tup {H : Hp} {v : V} {f : Fc} (h : Dq H v (fcD f)) : ∃ t, v = .ref t ∧ H t = some (.tup [.int f.1, .int f.2.1, .int f.2.2]) := by
  unfold fcD at h
  cases h with
  | tup h r =>
    cases r with
    | cons h1 r =>
    cases r with
    | cons h2 r =>
    cases r with
    | cons h3 r =>
    cases r
    cases h1
    cases h2
    cases h3
    exact ⟨_, rfl, h⟩
theorem op_catAK {X : Cx} (K : Fg) (h : X.K = K := by rfl) : OpR X (binaryOp .Add) (rCatA K) := h ▸ op_catA
theorem sl_tupAK {X : Cx} (K : Fg) (h : X.K = K := by rfl) : SlR X (rSlA K) := h ▸ sl_tupA
section
variable {σ : Sg} {H : Hp} {Q : VK} {td ty tx tv : TE} {D : Ends} {K : Fg} {a : Addr}
theorem g_maxP {i j : Int} (q : Q (.int (if j > i then j else i)) H) (h : H a = some (.tup [.int i, .int j])) : rMaxP [.ref a] H Q := ⟨a, i, j, rfl, h, q⟩
theorem g_minP {i j : Int} (q : Q (.int (if j < i then j else i)) H) (h : H a = some (.tup [.int i, .int j])) : rMinP [.ref a] H Q := ⟨a, i, j, rfl, h, q⟩
theorem g_dget2 (q : td σ H fun x H1 => ∃ a, x = .ref a ∧ IsD H1 a ∧ ty σ H1 fun y H2 => tx σ H2 fun z H3 => ∃ o, DGet H3 a y o ∧ Q (o.getD z) H3) : tDGet2 td ty tx σ H Q := q
theorem g_dput (q : tv σ H fun v H1 => td σ H1 fun x H2 => ty σ H2 fun y H3 => ∃ a H4, x = .ref a ∧ DPut H3 a y v H4 ∧ D.nx σ H4) : sDPut td ty tv D σ H := q
theorem g_notT {ta : TE} (q : ta σ H fun x H1 => ∃ k, TruV K x H1 k ∧ Q (.bl (!k)) H1) : tNotT K ta σ H Q := q
end

local macro_rules | `(tactic| walk_at "hpS") => `(tactic| with_reducible first
  | exact Same.refl _
  | assumption
  | (refine' Same.trans ?hq (same_new (by assumption)); (case hq => walk_at "hpS"))
  | (refine' Same.trans ?hq (by assumption); (case hq => walk_at "hpS"))
  | fail)
local macro_rules | `(tactic| walk_at "hpH") => `(tactic| with_reducible first
  | assumption
  | exact upd_same
  | (refine' same_at (same_new (by assumption)) ?hq; (case hq => walk_at "hpH"))
  | (refine' same_at (by assumption) ?hq; (case hq => walk_at "hpH"))
  | fail)
local macro_rules | `(tactic| walk_at "hpTo") => `(tactic| with_reducible first
  | assumption
  | (refine' sq_t (same_new (by assumption)) ?hq; (case hq => walk_at "hpTo"))
  | (refine' sq_t (by assumption) ?hq; (case hq => walk_at "hpTo"))
  | fail)
local macro_rules | `(tactic| walk_at "hpT") => `(tactic| with_reducible first
  | (refine' SqT.of ?hq; (case hq => walk_at "hpH"))
  | walk_at "hpTo"
  | fail)
local macro_rules | `(tactic| walk_at "hpLo") => `(tactic| with_reducible first
  | assumption
  | (refine' sq_l (same_new (by assumption)) ?hq; (case hq => walk_at "hpLo"))
  | (refine' sq_l (by assumption) ?hq; (case hq => walk_at "hpLo"))
  | fail)
local macro_rules | `(tactic| walk_at "hpL") => `(tactic| with_reducible first
  | (refine' SqL.of ?hq; (case hq => walk_at "hpH"))
  | walk_at "hpLo"
  | fail)
local macro_rules | `(tactic| walk_at "kit") => `(tactic| with_reducible first
  | exact kit_int_bool | exact kit_int_int | exact kit_int_tuple | exact kit_int_list | exact kit_int_str
  | exact kit_tuple_tuple | exact kit_tuple_int | exact kit_tuple_bool | exact kit_tuple_list | exact kit_tuple_str
  | exact kit_bool_bool | exact kit_bool_int | exact kit_bool_tuple | exact kit_bool_list | exact kit_bool_str
  | exact kit_str_str | exact kit_str_int | exact kit_str_bool | exact kit_str_tuple | exact kit_str_list
  | exact kit_NoneType_int | exact kit_NoneType_bool | exact kit_NoneType_tuple | exact kit_NoneType_list | exact kit_NoneType_str
  | exact kit_list_list | exact kit_list_tuple | exact kit_list_int | exact kit_list_bool | exact kit_list_str
  | fail)
local macro_rules | `(tactic| walk_at "call") => `(tactic| fail)
local macro_rules | `(tactic| walk_at "s0") => `(tactic| with_reducible first
  | refine g_seq ?_ | refine g_asg ?_ | refine g_name ?_ | refine g_ifS ?_ | refine g_ret ?_ | refine g_retN ?_ | refine g_next ?_
  | refine g_par ?_ | refine g_parE ?_ | refine g_drop ?_
  | refine g_c ?_ | refine g_op ?_ | refine g_un ?_ | refine g_cb ?_ | refine g_call ?_ | refine g_nil ?_ | refine g_cons ?_ | refine g_tup ?_ | refine g_lst ?_
  | refine g_test ?_ | refine g_B ?_ | refine g_blF ?_ | refine g_and ?_ | refine g_or ?_ | refine g_not ?_ | refine g_andV ?_ | refine g_orV ?_ | refine g_notV ?_ | refine g_if ?_
  | refine iteT ?_ | refine iteF ?_
  | refine g_chain ?_ | refine g_sl ?_ | refine g_noPart ?_ | refine g_part ?_ | refine g_partI ?_ | refine g_slS ?_ ?side | refine g_M1 ?_ | refine g_M1s ?_ | refine g_starts ?_ | refine g_bm ?_ | refine g_bm0 ?_ | refine g_tyS ?_
  | refine g_Fs ?_ | refine g_JsN ?_ | refine g_JsC ?_ | refine g_JsE ?_ ?side | refine g_fmt ?_ | refine g_fmtI ?_ ?side | refine g_fmtS ?_ ?side | refine g_iList ?_ | refine g_iTup ?_ | refine g_iStr ?_ | refine g_iStrE ?_ | refine g_iRng1 ?_ | refine g_iRng1E ?_ ?side1 ?side2 | refine g_yes ?_ | refine g_ckw ?_ | refine g_dget ?_ | refine g_dictZip ?_ | refine g_gCons ?_ | refine g_gNil ?_ | refine g_revL ?_ | refine g_for ?_ | refine g_lc ?_ | refine g_addS ?_ ?side | refine g_str ?_ ?side | refine g_lenS ?_ ?side
  | refine g_rI0 ?_ | refine g_rI ?_ ?side | refine g_rU ?_ | refine g_abs ?_ | refine g_int ?_ | refine g_intB ?_ | refine g_gcd ?_ | refine g_inS ?_ | refine g_isN0 ?_ | refine g_notN0 ?_
  | fail)
local macro_rules | `(tactic| walk_at "s1") => `(tactic| first
  | ((with_reducible refine' g_var ?h ?_); (case h => exact rfl))
  | ((with_reducible refine' g_new ?h ?_); (case h => exact (by simp only [List.length_cons, List.length_nil]; decide)); intro tnew htnew)
  | ((with_reducible refine' iteDT ?h ?_); (case h => first | exact rfl | assumption))
  | ((with_reducible refine' iteNT ?h ?_); (case h => first | exact rfl | assumption))
  | ((with_reducible refine' iteDF ?h ?_); (case h => first | assumption | (intro z; cases z)))
  | ((with_reducible refine' iteNF ?h ?_); (case h => first | assumption | (intro z; cases z)))
  | ((with_reducible refine' g_eq ?_ ?h); (case h => exact rfl))
  | ((with_reducible refine' g_ne ?_ ?h); (case h => exact rfl))
  | ((with_reducible refine' g_ixT ?_ ?h ?e); (case h => walk_at "hpT"); (case e => first | exact rfl | exact atI_0 | exact atI_1))
  | ((with_reducible refine' g_ixL ?_ ?h ?e); (case h => walk_at "hpL"); (case e => first | exact rfl | exact atI_0 | exact atI_1))
  | ((with_reducible refine' g_isi_int ?_ ?h); (case h => walk_at "kit"))
  | ((with_reducible refine' g_isi_str ?_ ?h); (case h => walk_at "kit"))
  | ((with_reducible refine' g_isi_bl ?_ ?h); (case h => walk_at "kit"))
  | ((with_reducible refine' g_isi_non ?_ ?h); (case h => walk_at "kit"))
  | ((with_reducible refine' g_isi_t ?_ ?t ?h); (case t => walk_at "hpT"); (case h => walk_at "kit"))
  | ((with_reducible refine' g_isi_l ?_ ?t ?h ?l); (case l => walk_at "hpH"); (case t => walk_at "hpL"); (case h => walk_at "kit"))
  | ((with_reducible refine' g_lenT ?_ ?h); (case h => walk_at "hpT"))
  | ((with_reducible refine' g_lenL ?_ ?h); (case h => walk_at "hpL"))
  | ((with_reducible refine' g_split ?_ ?h ?side); (case h => exact rfl); intro pnew hpnew)
  | ((with_reducible refine' g_slL ?h ?_); (case h => walk_at "hpL"); intro pnew hpnew)
  | ((with_reducible refine' g_iListE ?_ ?h); (case h => walk_at "hpL"))
  | ((with_reducible refine' g_iTupE ?_ ?h); (case h => walk_at "hpT"))
  | ((with_reducible refine' g_tyL ?_ ?h); (case h => walk_at "hpL"))
  | ((with_reducible refine' g_join ?_ ?h ?side); (case h => walk_at "hpL"))
  | ((with_reducible refine' g_append ?_ ?h ?side); (case h => walk_at "hpH"))
  | ((with_reducible refine' g_all ?_ ?h); (case h => walk_at "hpL"))
  | ((with_reducible refine' g_gTup ?_ ?h ?n); (case h => walk_at "hpT"); (case n => exact rfl))
  | ((with_reducible refine' g_revLE ?h ?_); (case h => walk_at "hpL"); intro pnew hpnew)
  | ((with_reducible refine' g_isN1 ?_ ?h); (case h => first | assumption | (intro z; cases z)))
  | ((with_reducible refine' g_notN1 ?_ ?h); (case h => first | assumption | (intro z; cases z)))
  | walk_at "call"
  | ((with_reducible refine' iteBT ?h ?_); (case h => first | assumption | exact rfl))
  | ((with_reducible refine' iteBF ?h ?_); (case h => first | assumption | exact rfl))
  | fail)
local macro_rules | `(tactic| walk_at "nrm") => `(tactic| simp only [Bool.not_true, Bool.not_false, decide_eq_true_eq, decide_true, decide_false, Bool.true_and, Bool.false_and, Bool.and_true, Bool.and_false, V.int.injEq, V.bl.injEq, V.str.injEq, List.length_cons, List.length_nil, Bool.not_eq_true', decide_eq_false_iff_not, Int.not_lt, Int.not_le, reduceCtorEq, not_false_eq_true, not_true_eq_false, Decidable.not_not] at *)
local macro_rules | `(tactic| walk_at "sp") => `(tactic| ((with_reducible refine ite2 (fun c => ?_) (fun c => ?_)) <;> (try simp only [decide_eq_true_eq, Bool.not_eq_true', decide_eq_false_iff_not, V.int.injEq, V.bl.injEq, V.str.injEq, Int.not_lt, Int.not_le, reduceCtorEq, Decidable.not_not, Bool.false_eq_true, Bool.true_eq_false] at c) <;> (try (exfalso; omega))))
local macro_rules | `(tactic| walk_at "s") => `(tactic| first | walk_at "s0" | walk_at "s1" | fail)
local macro_rules | `(tactic| walk_at "go") => `(tactic| (try dsimp only [cxK, cxK']); repeat' walk_at "s")
local macro_rules | `(tactic| walk_at "gos") => `(tactic| ((try dsimp only [cxK, cxK']); repeat' (first | walk_at "s" | walk_at "sp" | fail)))

local macro_rules | `(tactic| walk_at "hpNo") => `(tactic| with_reducible first
  | assumption
  | (refine' Nm.ofPr ?hq; (case hq => assumption))
  | (refine' Nm.same (same_new (by assumption)) ?hq; (case hq => walk_at "hpNo"))
  | (refine' Nm.same (by assumption) ?hq; (case hq => walk_at "hpNo"))
  | fail)
local macro_rules | `(tactic| walk_at "hpN") => `(tactic| with_reducible first
  | walk_at "hpNo"
  | (refine' Nm.of ?hq; (case hq => walk_at "hpH"))
  | fail)
local macro_rules | `(tactic| walk_at "hpPo") => `(tactic| with_reducible first
  | assumption
  | (refine' Pr.same (same_new (by assumption)) ?hq; (case hq => walk_at "hpPo"))
  | (refine' Pr.same (by assumption) ?hq; (case hq => walk_at "hpPo"))
  | fail)
local macro_rules | `(tactic| walk_at "hpP") => `(tactic| with_reducible first
  | walk_at "hpPo"
  | (refine' Pr.of ?hq; (case hq => walk_at "hpH"))
  | fail)
local macro_rules | `(tactic| walk_at "hpDo") => `(tactic| with_reducible first
  | assumption
  | exact Dq.int _ | exact Dq.bl _ | exact Dq.str _ | exact Dq.non
  | (refine' Dq.same (same_new (by assumption)) ?hq; (case hq => walk_at "hpDo"))
  | (refine' Dq.same (by assumption) ?hq; (case hq => walk_at "hpDo"))
  | fail)
local macro_rules | `(tactic| walk_at "hpD") => `(tactic| with_reducible first
  | walk_at "hpDo"
  | fail)

local macro_rules | `(tactic| walk_at "call") => `(tactic| first
  | ((with_reducible refine' g_maxP ?_ ?h); (case h => walk_at "hpH"))
  | ((with_reducible refine' g_minP ?_ ?h); (case h => walk_at "hpH"))
  | (with_reducible refine g_iSeqA ?_)
  | fail)
section
variable {P : Program} {w : World} {K : Fg} {mg : Str → Option Value} {base : Heap} {f f1 f2 f3 : Addr} {fd : FuncData}
theorem ok_face_steps (F : Fun K "face_steps" "face_steps" s_face_steps f fd) (T : Blt mg) : FnOk P w K mg base CX0 1 f fd ["face"] spSteps := by
  refine F.ok sc_face_steps (fun vs H Q E h => ?_) (fun cdv A outer s H vs Q E hr h => ?_)
  · obtain ⟨t, f, rfl, _⟩ := h
    rfl
  · obtain ⟨t, f, rfl, ht, k⟩ := h
    refine ⟨_, (pss_cons (ps_asg (pv 0) (pg_tup rfl (pgs_cons (pg_name (i := 1) sc_face_steps.nd rfl (.inl rfl)) (pgs_cons (pg_name (i := 2) sc_face_steps.nd rfl (.inl rfl)) (pgs_cons (pg_name (i := 3) sc_face_steps.nd rfl (.inl rfl)) pgs_nil)))))
      (pss_one (ps_ret (pe_lc (own := [("step", 4)]) (g := gName 4) rfl sc_face_steps.nd (pi_tup (pe_tup (pa_cons (pe_tup (pa_cons (pv 1) (pa_cons (pv 2) pa_nil))) (pa_cons (pe_tup (pa_cons (pv 2) (pa_cons (pv 3) pa_nil))) (pa_cons (pe_tup (pa_cons (pv 3) (pa_cons (pv 1) pa_nil))) pa_nil))))) (blkOk_by (N := ["face", "a", "b", "c", "step"]) (sc := defScope s_face_steps) (by decide +kernel)) (fun _ _ _ _ _ => pg_name (i := 4) sc_face_steps.nd rfl (.inl rfl)) (fun _ _ _ _ _ => (pts_one (pt_cmpR op_ne (pe_ix (ix_seqK K) (pv 4) pe_int (fun _ _ => rfl)) (pe_ix (ix_seqK K) (pv 4) pe_int (fun _ _ => rfl)) (nomark _)))) (fun _ _ _ _ _ => (pv 4)))))), ?_⟩
    walk_at "go"
    rename_i t1 n1 t2 n2 t3 n3 t4 n4
    have h1 := upd_same (H := H) (a := t1) (o := .tup [.int f.1, .int f.2.1])
    have s1 := same_new (o := .tup [.int f.1, .int f.2.1]) n1
    generalize upd H t1 (.tup [.int f.1, .int f.2.1]) = H1 at *
    have h2 := upd_same (H := H1) (a := t2) (o := .tup [.int f.2.1, .int f.2.2])
    have s2 := same_new (o := .tup [.int f.2.1, .int f.2.2]) n2
    generalize upd H1 t2 (.tup [.int f.2.1, .int f.2.2]) = H2 at *
    have h3 := upd_same (H := H2) (a := t3) (o := .tup [.int f.2.2, .int f.1])
    have s3 := same_new (o := .tup [.int f.2.2, .int f.1]) n3
    generalize upd H2 t3 (.tup [.int f.2.2, .int f.1]) = H3 at *
    have h4 := upd_same (H := H3) (a := t4) (o := .tup [.ref t1, .ref t2, .ref t3])
    have s4 := same_new (o := .tup [.ref t1, .ref t2, .ref t3]) n4
    generalize upd H3 t4 (.tup [.ref t1, .ref t2, .ref t3]) = H4 at *
    have h14 := s4 _ _ (s3 _ _ (s2 _ _ h1))
    have h24 := s4 _ _ (s3 _ _ h2)
    have h34 := s4 _ _ h3
    intro D hD
    refine lcW (walk_tup (K := K) (a := t4) (xs := [.ref t1, .ref t2, .ref t3])) hD (fun i => (([(f.1, f.2.1), (f.2.1, f.2.2), (f.2.2, f.1)] : List Ed)[i]?.map fun s => !decide (s.1 = s.2)).getD false) (fun H' i y => ∃ (u : Addr) (s : Ed), y = .ref u ∧ ([(f.1, f.2.1), (f.2.1, f.2.2), (f.2.2, f.1)] : List Ed)[i]? = some s ∧ delH H' D u = some (.tup [.int s.1, .int s.2])) (Nat.le_of_ble_eq_true rfl) (fun H5 s5 => SqT.of (s5 _ _ h4)) (fun H5 H6 i y bt z => ?_) (fun i x H5 H5' hi s5 hD5 y' Kt Kf ht hf => ?_) (fun H5 ys s5 hY hp => ?_)
    · obtain ⟨u, s, e1, e2, e3⟩ := z
      exact ⟨u, s, e1, e2, but_same bt _ _ e3⟩
    · obtain ⟨rfl, hx⟩ := y'
      obtain ⟨acc, hA⟩ := hD5
      have hi3 : i = 0 ∨ i = 1 ∨ i = 2 := by
        have : i < 3 := hi
        omega
      have go : ∀ (u : Addr) (s : Ed), x = .ref u → ([(f.1, f.2.1), (f.2.1, f.2.2), (f.2.2, f.1)] : List Ed)[i]? = some s → H5' u = some (.tup [.int s.1, .int s.2]) →
          tTest (tOp rNe (tOp (rIx K) (tVar 4) (tC (.int 0))) (tOp (rIx K) (tVar 4) (tC (.int 1)))) ((wipe [some (.ref t), some (.int f.1), some (.int f.2.1), some (.int f.2.2), none] [4]).set 4 (some x)) H5' fun b H4 => if b = true then tVar 4 ((wipe [some (.ref t), some (.int f.1), some (.int f.2.1), some (.int f.2.2), none] [4]).set 4 (some x)) H4 Kt else Kf H4 := fun u s e1 e2 e3 => by
        subst e1
        rw [e2] at ht hf
        have ht := ht (.ref u) H5' (Same.refl _)
        have hf := hf H5' (Same.refl _)
        show tTest _ [some (.ref t), some (.int f.1), some (.int f.2.1), some (.int f.2.2), some (.ref u)] _ _
        by_cases c : s.1 = s.2
        · have c' : V.int s.1 = V.int s.2 := by rw [c]
          walk_at "go"
          exact hf (by show (!decide (s.1 = s.2)) = false; rw [decide_eq_true c]; rfl)
        · have c' : ¬ V.int s.1 = V.int s.2 := fun z => c (V.int.inj z)
          walk_at "go"
          exact ht (by show (!decide (s.1 = s.2)) = true; rw [decide_eq_false c]; rfl) ⟨u, s, rfl, rfl, mk_at e3 (ne_of e3 hA (by intro z; cases z))⟩
      refine g_wipe rfl ?_
      rcases hi3 with rfl | rfl | rfl
      · cases hx
        exact go t1 (f.1, f.2.1) rfl rfl (s5 _ _ h14)
      · cases hx
        exact go t2 (f.2.1, f.2.2) rfl rfl (s5 _ _ h24)
      · cases hx
        exact go t3 (f.2.2, f.1) rfl rfl (s5 _ _ h34)
    · walk_at "go"
      refine k D ys H5 ((((s1.trans s2).trans s3).trans s4).trans s5) hY ?_
      unfold stepsOf
      generalize hL : ([(f.1, f.2.1), (f.2.1, f.2.2), (f.2.2, f.1)] : List Ed) = L at *
      have gen : ∀ (n : Nat) (ys : List V), n ≤ L.length → Paired (fun i y => ∃ (u : Addr) (s : Ed), y = .ref u ∧ L[i]? = some s ∧ delH H5 D u = some (.tup [.int s.1, .int s.2])) ((List.range n).filter fun i => (L[i]?.map fun s => !decide (s.1 = s.2)).getD false) ys → Sps H5 ys ((L.take n).filter fun s => !decide (s.1 = s.2)) := by
        intro n
        induction n with
        | zero => intro ys _ q; cases q; exact .nil
        | succ n ih =>
          intro ys hn q
          have hL : L[n]? = some L[n] := List.getElem?_eq_getElem hn
          rw [List.range_succ, List.filter_append] at q
          rw [List.take_add_one, hL, List.filter_append]
          have sp : ∀ {l l' : List Nat} {ys : List V} {F : Nat → V → Prop}, Paired F (l ++ l') ys → ∃ y1 y2, ys = y1 ++ y2 ∧ Paired F l y1 ∧ Paired F l' y2 := by
            intro l
            induction l with
            | nil => intro l' ys F q; exact ⟨[], ys, rfl, .nil, q⟩
            | cons x l ih =>
              intro l' ys F q
              cases q with
              | cons h r =>
                obtain ⟨y1, y2, rfl, q1, q2⟩ := ih r
                exact ⟨_ :: y1, y2, rfl, .cons h q1, q2⟩
          obtain ⟨y1, y2, rfl, q1, q2⟩ := sp q
          have p1 := ih y1 (by omega) q1
          have app : ∀ {l l' : List V} {k k' : List Ed}, Sps H5 l k → Sps H5 l' k' → Sps H5 (l ++ l') (k ++ k') := by
            intro l l' k k' h h'
            unfold Sps at *
            induction h with
            | nil => exact h'
            | cons h _ ih => exact .cons h ih
          refine app p1 ?_
          show Sps H5 y2 ([L[n]].filter fun s => !decide (s.1 = s.2))
          by_cases c : (!decide (L[n].1 = L[n].2)) = true
          · rw [List.filter_cons_of_pos (by rw [hL]; exact c)] at q2
            rw [List.filter_cons_of_pos (by exact c)]
            cases q2 with
            | cons h r =>
              cases r
              obtain ⟨u, s, e1, e2, e3⟩ := h
              rw [hL] at e2
              cases e2
              exact .cons ⟨u, e1, mk_same _ _ e3⟩ .nil
          · rw [List.filter_cons_of_neg (by rw [hL]; exact c)] at q2
            rw [List.filter_cons_of_neg (by exact c)]
            cases q2
            exact .nil
      have := gen L.length ys (Nat.le_refl _) (by
        have e : L.length = 3 := by rw [← hL]; rfl
        rw [e]
        exact hp)
      rw [List.take_length] at this
      exact this
theorem ok_edge_of (F : Fun K "edge_of" "edge_of" s_edge_of f fd) (T : Blt mg) : FnOk P w K mg base CX0 1 f fd ["step"] spEdge := by
  refine F.ok sc_edge_of (fun vs H Q E h => ?_) (fun cdv A outer s H vs Q E hr h => ?_)
  · obtain ⟨t, s, rfl, _⟩ := h
    rfl
  · obtain ⟨t, s, rfl, ht, k⟩ := h
    refine ⟨_, (pss_one (ps_ret (pe_tup (pa_cons (pe_callB (cr_minP rfl) (by rfl) T.n_min (by decide +kernel) (pa_cons (pv 0) pa_nil)) (pa_cons (pe_callB (cr_maxP rfl) (by rfl) T.n_max (by decide +kernel) (pa_cons (pv 0) pa_nil)) pa_nil))))), ?_⟩
    walk_at "go"
    exact k _ _ (by walk_at "hpS") upd_same
end
end Ko


namespace Ko
open PySem L2 PySem.Spec PyProof.Rows Xm
def absum (l : List Int) : Nat := (l.map Int.natAbs).sum
def pairUp : List Int → List Int
  | a :: b :: r => (a + b) :: pairUp r
  | l => l
theorem absum_cons (a : Int) (l : List Int) : absum (a :: l) = a.natAbs + absum l := rfl
theorem pairUp_sum : ∀ l : List Int, (pairUp l).sum = l.sum
  | [] => rfl
  | [_] => rfl
  | a :: b :: r => by
    show (a + b) + (pairUp r).sum = a + (b + r.sum)
    rw [pairUp_sum r]
    omega
theorem pairUp_abs : ∀ l : List Int, absum (pairUp l) ≤ absum l
  | [] => Nat.le_refl _
  | [_] => Nat.le_refl _
  | a :: b :: r => by
    show (a + b).natAbs + absum (pairUp r) ≤ a.natAbs + (b.natAbs + absum r)
    have := pairUp_abs r
    omega
theorem pairUp_len : ∀ l : List Int, (pairUp l).length = l.length / 2 + l.length % 2
  | [] => rfl
  | [a] => by simp [pairUp]
  | a :: b :: r => by
    show (pairUp r).length + 1 = (r.length + 2) / 2 + (r.length + 2) % 2
    rw [pairUp_len r]
    omega
theorem pairUp_at : ∀ {l : List Int} {k : Nat} {a b : Int}, l[2 * k]? = some a → l[2 * k + 1]? = some b → (pairUp l)[k]? = some (a + b)
  | [], k, a, b, h, _ => by simp at h
  | [_], k, a, b, _, h => by
    rw [List.getElem?_eq_none (by simp)] at h
    cases h
  | x :: y :: r, 0, a, b, h, h' => by
    cases h
    cases h'
    rfl
  | x :: y :: r, k + 1, a, b, h, h' => by
    show (pairUp r)[k]? = _
    refine pairUp_at (l := r) ?_ ?_
    · have e : 2 * (k + 1) = (2 * k) + 1 + 1 := by omega
      rw [e, List.getElem?_cons_succ, List.getElem?_cons_succ] at h
      exact h
    · have e : 2 * (k + 1) + 1 = (2 * k + 1) + 1 + 1 := by omega
      rw [e, List.getElem?_cons_succ, List.getElem?_cons_succ] at h'
      exact h'
theorem pairUp_drop : ∀ l : List Int, (pairUp l).drop (l.length / 2) = l.drop (l.length - l.length % 2)
  | [] => rfl
  | [a] => by simp [pairUp]
  | a :: b :: r => by
    have e1 : (r.length + 1 + 1) / 2 = r.length / 2 + 1 := by omega
    have e2 : r.length + 1 + 1 - (r.length + 1 + 1) % 2 = (r.length - r.length % 2) + 1 + 1 := by omega
    show ((a + b) :: pairUp r).drop ((r.length + 1 + 1) / 2) = (a :: b :: r).drop (r.length + 1 + 1 - (r.length + 1 + 1) % 2)
    rw [e1, e2, List.drop_succ_cons, List.drop_succ_cons, List.drop_succ_cons, pairUp_drop r]
theorem paired_get {α β : Type} {F : α → β → Prop} : ∀ {l : List α} {k : List β} {i : Nat} {a : α}, Paired F l k → l[i]? = some a → ∃ b, k[i]? = some b ∧ F a b
  | _, _, _, _, .nil, h => by simp at h
  | _, _, 0, _, .cons h _, e => by
    cases e
    exact ⟨_, rfl, h⟩
  | _, _, i + 1, _, .cons _ r, e => paired_get (i := i) r (by simpa using e)
theorem paired_get2 {α β : Type} {F : α → β → Prop} : ∀ {l : List α} {k : List β} {i : Nat} {b : β}, Paired F l k → k[i]? = some b → ∃ a, l[i]? = some a ∧ F a b
  | _, _, _, _, .nil, h => by simp at h
  | _, _, 0, _, .cons h _, e => by
    cases e
    exact ⟨_, rfl, h⟩
  | _, _, i + 1, _, .cons _ r, e => paired_get2 (i := i) r (by simpa using e)
theorem paired_of {α β : Type} {F : α → β → Prop} : ∀ {l : List α} {k : List β}, l.length = k.length → (∀ (i : Nat) a b, l[i]? = some a → k[i]? = some b → F a b) → Paired F l k
  | [], [], _, _ => .nil
  | a :: l, b :: k, hl, h => .cons (h 0 a b rfl rfl) (paired_of (by simpa using hl) fun i x y e1 e2 => h (i + 1) x y e1 e2)
  | [], _ :: _, hl, _ => by simp at hl
  | _ :: _, [], hl, _ => by simp at hl
theorem paired_app {α β : Type} {F : α → β → Prop} {l l' : List α} {k k' : List β} (h : Paired F l k) (h' : Paired F l' k') : Paired F (l ++ l') (k ++ k') := by
  induction h with
  | nil => exact h'
  | cons h _ ih => exact .cons h ih
theorem paired_drop {α β : Type} {F : α → β → Prop} : ∀ {l : List α} {k : List β} (n : Nat), Paired F l k → Paired F (l.drop n) (k.drop n)
  | _, _, 0, h => h
  | _, _, n + 1, .nil => .nil
  | _, _, n + 1, .cons _ r => paired_drop n r
theorem mem_absum {l : List Int} {a : Int} (h : a ∈ l) : a.natAbs ≤ absum l := by
  induction l with
  | nil => cases h
  | cons b l ih =>
    rw [absum_cons]
    rcases List.mem_cons.mp h with rfl | h
    · omega
    · have := ih h
      omega
theorem Nr.re {H : Hp} {v : V} {D : Int} {B C : Nat} {N : Int} (h : Nr H v D B N) (l : N.natAbs ≤ C) : Nr H v D C N := by
  obtain ⟨q, h1, h2, h3⟩ := h
  exact ⟨q, h1, h2, l⟩
theorem Nr.dels {H : Hp} {l : Addr} {xs : List V} {v : V} {D : Int} {B : Nat} {N : Int} (h : Nr H v D B N) (hl : H l = some (.lst xs)) : Nr (delH H l) v D B N := by
  obtain ⟨q, ⟨a, rfl, h1⟩, h2⟩ := h
  exact ⟨q, ⟨a, rfl, mk_at h1 (ne_of h1 hl (by intro z; cases z))⟩, h2⟩
def spFold (fp : Addr) : Sp := fun vs H Q _ => ∃ (a : Addr) (xs : List V) (Ns : List Int) (D : Int) (B : Nat), vs = [.ref a, .ref fp] ∧ H a = some (.lst xs) ∧ Paired (fun v N => Nr H v D B N) xs Ns ∧ 0 < Ns.length ∧ Ns.length ≤ 1000 ∧ absum Ns ≤ B ∧ OkD D B B ∧
  ∀ x H', Same H H' → Nr H' x D B Ns.sum → Q x H'
theorem g_callL {i : Nat} {f : Addr} {sp : Sp} {E : XK} {t : TA} {σ : Sg} {H : Hp} {Q : VK} (h : σ[i]? = some (some (.ref f))) (q : t σ H fun vs H1 => sp vs H1 Q E) : tCallL i f sp [] E t σ H Q := by
  refine ⟨h, ?_⟩
  show t σ H fun vs H1 => sp (vs ++ []) H1 Q E
  simpa using q
theorem g_iRng3 {ta : TA} {σ : Sg} {H : Hp} {R : It → Hp → Prop} (q : ta σ H fun vs H1 => ∃ (i j c : Int) (n : Nat), vs = [.int i, .int j, .int c] ∧ RgC i j c n ∧ R (Itc i c n) H1) : iRng3 ta σ H R := q
theorem g_iRng3E {i j c : Int} {f : Int → Int → Nat → Prop} (n : Nat) (r : RgC i j c n) (q : f i c n) : ∃ (i' j' c' : Int) (n : Nat), [V.int i, V.int j, V.int c] = [.int i', .int j', .int c'] ∧ RgC i' j' c' n ∧ f i' c' n := ⟨i, j, c, n, rfl, r, q⟩
theorem rg_two {m : Nat} (h : m ≤ 100000) : RgC 0 ((m : Int) - 1) 2 (m / 2) := by
  have e : Builtin.Range.rangeSize 0 ((m : Int) - 1) 2 = ((m / 2 : Nat) : Int) := by
    unfold Builtin.Range.rangeSize
    rw [if_pos (by decide)]
    split <;> omega
  refine ⟨by decide, by decide, ?_, e⟩
  unfold Builtin.Range.small
  rw [e]
  simp only [Builtin.Range.rangeFitsLong, Bool.and_eq_true, Bool.or_eq_true, decide_eq_true_eq, beq_iff_eq, show ((2 : Int) > 0) by decide, if_true]
  omega
theorem cutV_from {xs : List V} {n : Nat} (h : n ≤ xs.length) : cutV xs (some (n : Int)) none = xs.drop n := by
  unfold cutV
  have e1 : HT.sIx xs.length 0 (some (n : Int)) = n := by
    unfold HT.sIx
    simp
    split <;> omega
  have e2 : HT.sIx xs.length xs.length none = xs.length := rfl
  rw [e1, e2, List.take_of_length_le (by rw [List.length_drop]; omega)]

local macro_rules | `(tactic| walk_at "hpS") => `(tactic| with_reducible first
  | exact Same.refl _
  | assumption
  | (refine' Same.trans ?hq (same_new (by assumption)); (case hq => walk_at "hpS"))
  | (refine' Same.trans ?hq (by assumption); (case hq => walk_at "hpS"))
  | fail)
local macro_rules | `(tactic| walk_at "hpH") => `(tactic| with_reducible first
  | assumption
  | exact upd_same
  | (refine' same_at (same_new (by assumption)) ?hq; (case hq => walk_at "hpH"))
  | (refine' same_at (by assumption) ?hq; (case hq => walk_at "hpH"))
  | fail)
local macro_rules | `(tactic| walk_at "hpTo") => `(tactic| with_reducible first
  | assumption
  | (refine' sq_t (same_new (by assumption)) ?hq; (case hq => walk_at "hpTo"))
  | (refine' sq_t (by assumption) ?hq; (case hq => walk_at "hpTo"))
  | fail)
local macro_rules | `(tactic| walk_at "hpT") => `(tactic| with_reducible first
  | (refine' SqT.of ?hq; (case hq => walk_at "hpH"))
  | walk_at "hpTo"
  | fail)
local macro_rules | `(tactic| walk_at "hpLo") => `(tactic| with_reducible first
  | assumption
  | (refine' sq_l (same_new (by assumption)) ?hq; (case hq => walk_at "hpLo"))
  | (refine' sq_l (by assumption) ?hq; (case hq => walk_at "hpLo"))
  | fail)
local macro_rules | `(tactic| walk_at "hpL") => `(tactic| with_reducible first
  | (refine' SqL.of ?hq; (case hq => walk_at "hpH"))
  | walk_at "hpLo"
  | fail)
local macro_rules | `(tactic| walk_at "kit") => `(tactic| with_reducible first
  | exact kit_int_bool | exact kit_int_int | exact kit_int_tuple | exact kit_int_list | exact kit_int_str
  | exact kit_tuple_tuple | exact kit_tuple_int | exact kit_tuple_bool | exact kit_tuple_list | exact kit_tuple_str
  | exact kit_bool_bool | exact kit_bool_int | exact kit_bool_tuple | exact kit_bool_list | exact kit_bool_str
  | exact kit_str_str | exact kit_str_int | exact kit_str_bool | exact kit_str_tuple | exact kit_str_list
  | exact kit_NoneType_int | exact kit_NoneType_bool | exact kit_NoneType_tuple | exact kit_NoneType_list | exact kit_NoneType_str
  | exact kit_list_list | exact kit_list_tuple | exact kit_list_int | exact kit_list_bool | exact kit_list_str
  | fail)
local macro_rules | `(tactic| walk_at "call") => `(tactic| fail)
local macro_rules | `(tactic| walk_at "s0") => `(tactic| with_reducible first
  | refine g_seq ?_ | refine g_asg ?_ | refine g_name ?_ | refine g_ifS ?_ | refine g_ret ?_ | refine g_retN ?_ | refine g_next ?_
  | refine g_par ?_ | refine g_parE ?_ | refine g_drop ?_
  | refine g_c ?_ | refine g_op ?_ | refine g_un ?_ | refine g_cb ?_ | refine g_call ?_ | refine g_nil ?_ | refine g_cons ?_ | refine g_tup ?_ | refine g_lst ?_
  | refine g_test ?_ | refine g_B ?_ | refine g_blF ?_ | refine g_and ?_ | refine g_or ?_ | refine g_not ?_ | refine g_andV ?_ | refine g_orV ?_ | refine g_notV ?_ | refine g_if ?_
  | refine iteT ?_ | refine iteF ?_
  | refine g_chain ?_ | refine g_sl ?_ | refine g_noPart ?_ | refine g_part ?_ | refine g_partI ?_ | refine g_slS ?_ ?side | refine g_M1 ?_ | refine g_M1s ?_ | refine g_starts ?_ | refine g_bm ?_ | refine g_bm0 ?_ | refine g_tyS ?_
  | refine g_Fs ?_ | refine g_JsN ?_ | refine g_JsC ?_ | refine g_JsE ?_ ?side | refine g_fmt ?_ | refine g_fmtI ?_ ?side | refine g_fmtS ?_ ?side | refine g_iList ?_ | refine g_iTup ?_ | refine g_iStr ?_ | refine g_iStrE ?_ | refine g_iRng1 ?_ | refine g_iRng1E ?_ ?side1 ?side2 | refine g_yes ?_ | refine g_ckw ?_ | refine g_dget ?_ | refine g_dictZip ?_ | refine g_gCons ?_ | refine g_gNil ?_ | refine g_revL ?_ | refine g_for ?_ | refine g_lc ?_ | refine g_addS ?_ ?side | refine g_str ?_ ?side | refine g_lenS ?_ ?side
  | refine g_rI0 ?_ | refine g_rI ?_ ?side | refine g_rU ?_ | refine g_abs ?_ | refine g_int ?_ | refine g_intB ?_ | refine g_gcd ?_ | refine g_inS ?_ | refine g_isN0 ?_ | refine g_notN0 ?_
  | fail)
local macro_rules | `(tactic| walk_at "s1") => `(tactic| first
  | ((with_reducible refine' g_var ?h ?_); (case h => exact rfl))
  | ((with_reducible refine' g_new ?h ?_); (case h => exact (by simp only [List.length_cons, List.length_nil]; decide)); intro tnew htnew)
  | ((with_reducible refine' iteDT ?h ?_); (case h => first | exact rfl | assumption))
  | ((with_reducible refine' iteNT ?h ?_); (case h => first | exact rfl | assumption))
  | ((with_reducible refine' iteDF ?h ?_); (case h => first | assumption | (intro z; cases z)))
  | ((with_reducible refine' iteNF ?h ?_); (case h => first | assumption | (intro z; cases z)))
  | ((with_reducible refine' g_eq ?_ ?h); (case h => exact rfl))
  | ((with_reducible refine' g_ne ?_ ?h); (case h => exact rfl))
  | ((with_reducible refine' g_ixT ?_ ?h ?e); (case h => walk_at "hpT"); (case e => first | exact rfl | exact atI_0 | exact atI_1))
  | ((with_reducible refine' g_ixL ?_ ?h ?e); (case h => walk_at "hpL"); (case e => first | exact rfl | exact atI_0 | exact atI_1))
  | ((with_reducible refine' g_isi_int ?_ ?h); (case h => walk_at "kit"))
  | ((with_reducible refine' g_isi_str ?_ ?h); (case h => walk_at "kit"))
  | ((with_reducible refine' g_isi_bl ?_ ?h); (case h => walk_at "kit"))
  | ((with_reducible refine' g_isi_non ?_ ?h); (case h => walk_at "kit"))
  | ((with_reducible refine' g_isi_t ?_ ?t ?h); (case t => walk_at "hpT"); (case h => walk_at "kit"))
  | ((with_reducible refine' g_isi_l ?_ ?t ?h ?l); (case l => walk_at "hpH"); (case t => walk_at "hpL"); (case h => walk_at "kit"))
  | ((with_reducible refine' g_lenT ?_ ?h); (case h => walk_at "hpT"))
  | ((with_reducible refine' g_lenL ?_ ?h); (case h => walk_at "hpL"))
  | ((with_reducible refine' g_split ?_ ?h ?side); (case h => exact rfl); intro pnew hpnew)
  | ((with_reducible refine' g_slL ?h ?_); (case h => walk_at "hpL"); intro pnew hpnew)
  | ((with_reducible refine' g_iListE ?_ ?h); (case h => walk_at "hpL"))
  | ((with_reducible refine' g_iTupE ?_ ?h); (case h => walk_at "hpT"))
  | ((with_reducible refine' g_tyL ?_ ?h); (case h => walk_at "hpL"))
  | ((with_reducible refine' g_join ?_ ?h ?side); (case h => walk_at "hpL"))
  | ((with_reducible refine' g_append ?_ ?h ?side); (case h => walk_at "hpH"))
  | ((with_reducible refine' g_all ?_ ?h); (case h => walk_at "hpL"))
  | ((with_reducible refine' g_gTup ?_ ?h ?n); (case h => walk_at "hpT"); (case n => exact rfl))
  | ((with_reducible refine' g_revLE ?h ?_); (case h => walk_at "hpL"); intro pnew hpnew)
  | ((with_reducible refine' g_isN1 ?_ ?h); (case h => first | assumption | (intro z; cases z)))
  | ((with_reducible refine' g_notN1 ?_ ?h); (case h => first | assumption | (intro z; cases z)))
  | walk_at "call"
  | ((with_reducible refine' iteBT ?h ?_); (case h => first | assumption | exact rfl))
  | ((with_reducible refine' iteBF ?h ?_); (case h => first | assumption | exact rfl))
  | fail)
local macro_rules | `(tactic| walk_at "nrm") => `(tactic| simp only [Bool.not_true, Bool.not_false, decide_eq_true_eq, decide_true, decide_false, Bool.true_and, Bool.false_and, Bool.and_true, Bool.and_false, V.int.injEq, V.bl.injEq, V.str.injEq, List.length_cons, List.length_nil, Bool.not_eq_true', decide_eq_false_iff_not, Int.not_lt, Int.not_le, reduceCtorEq, not_false_eq_true, not_true_eq_false, Decidable.not_not] at *)
local macro_rules | `(tactic| walk_at "sp") => `(tactic| ((with_reducible refine ite2 (fun c => ?_) (fun c => ?_)) <;> (try simp only [decide_eq_true_eq, Bool.not_eq_true', decide_eq_false_iff_not, V.int.injEq, V.bl.injEq, V.str.injEq, Int.not_lt, Int.not_le, reduceCtorEq, Decidable.not_not, Bool.false_eq_true, Bool.true_eq_false] at c) <;> (try (exfalso; omega))))
local macro_rules | `(tactic| walk_at "s") => `(tactic| first | walk_at "s0" | walk_at "s1" | fail)
local macro_rules | `(tactic| walk_at "go") => `(tactic| (try dsimp only [cxK, cxK']); repeat' walk_at "s")
local macro_rules | `(tactic| walk_at "gos") => `(tactic| ((try dsimp only [cxK, cxK']); repeat' (first | walk_at "s" | walk_at "sp" | fail)))

local macro_rules | `(tactic| walk_at "hpNo") => `(tactic| with_reducible first
  | assumption
  | (refine' Nm.ofPr ?hq; (case hq => assumption))
  | (refine' Nm.same (same_new (by assumption)) ?hq; (case hq => walk_at "hpNo"))
  | (refine' Nm.same (by assumption) ?hq; (case hq => walk_at "hpNo"))
  | fail)
local macro_rules | `(tactic| walk_at "hpN") => `(tactic| with_reducible first
  | walk_at "hpNo"
  | (refine' Nm.of ?hq; (case hq => walk_at "hpH"))
  | fail)
local macro_rules | `(tactic| walk_at "hpPo") => `(tactic| with_reducible first
  | assumption
  | (refine' Pr.same (same_new (by assumption)) ?hq; (case hq => walk_at "hpPo"))
  | (refine' Pr.same (by assumption) ?hq; (case hq => walk_at "hpPo"))
  | fail)
local macro_rules | `(tactic| walk_at "hpP") => `(tactic| with_reducible first
  | walk_at "hpPo"
  | (refine' Pr.of ?hq; (case hq => walk_at "hpH"))
  | fail)
local macro_rules | `(tactic| walk_at "hpDo") => `(tactic| with_reducible first
  | assumption
  | exact Dq.int _ | exact Dq.bl _ | exact Dq.str _ | exact Dq.non
  | (refine' Dq.same (same_new (by assumption)) ?hq; (case hq => walk_at "hpDo"))
  | (refine' Dq.same (by assumption) ?hq; (case hq => walk_at "hpDo"))
  | fail)
local macro_rules | `(tactic| walk_at "hpD") => `(tactic| with_reducible first
  | walk_at "hpDo"
  | fail)

local macro_rules | `(tactic| walk_at "call") => `(tactic| first
  | ((with_reducible refine' g_callL ?h ?_); (case h => exact rfl))
  | (with_reducible refine g_iRng3 ?_)
  | fail)
section
variable {P : Program} {w : World} {K : Fg} {mg : Str → Option Value} {base : Heap} {f fp f1 f2 f3 : Addr} {fd : FuncData}
theorem ok_folded (F : Fun K "folded" "folded" s_folded f fd) (T : Blt mg) (D_plus : Df P w K mg base 2 "plus" fp ["a", "b"] (spOp add)) : FnOk P w K mg base CX0 3 f fd ["values", "both"] (spFold fp) := by
  obtain ⟨_, G_plus, B_plus⟩ := D_plus.ok
  refine F.ok sc_folded (fun vs H Q E h => ?_) (fun cdv A outer s H vs Q E hr h => ?_)
  · obtain ⟨a, xs, Ns, D, B, rfl, _⟩ := h
    rfl
  · obtain ⟨a, xs, Ns, D, B, rfl, ha, hp, h0, hl, hab, hD, k⟩ := h
    refine ⟨_, (pss_cons (ps_set (i := 2) sc_folded.nd rfl (.inr rfl) (pe_callTy (cg_listOf K) (by rfl) T.n_list (by decide +kernel) (pa_cons (pv 0) pa_nil)))
      (pss_cons (ps_while PassesOwn.never (pt_cmpR op_gt (pe_callB (cg_lenK K) (by rfl) T.n_len (by decide +kernel) (pa_cons (pv 2) pa_nil)) pe_int (nomark _))
      (pss_cons (ps_set (i := 3) sc_folded.nd rfl (.inl rfl) (pe_slice sl_list (pv 2) (po_some (pe_op op_sub (pe_callB (cg_lenK K) (by rfl) T.n_len (by decide +kernel) (pa_cons (pv 2) pa_nil)) (pe_op op_mod (pe_callB (cg_lenK K) (by rfl) T.n_len (by decide +kernel) (pa_cons (pv 2) pa_nil)) pe_int))) po_none))
      (pss_one (ps_set (i := 2) sc_folded.nd rfl (.inr rfl) (pe_op op_cat (pe_lc (own := [("k", 4)]) (g := gName 4) (tt := tYes) rfl sc_folded.nd (pi_range3 (by rfl) T.n_range (pa_cons pe_int (pa_cons (pe_op op_sub (pe_callB (cg_lenK K) (by rfl) T.n_len (by decide +kernel) (pa_cons (pv 2) pa_nil)) pe_int) (pa_cons pe_int pa_nil)))) (blkOk_by (N := ["values", "both", "left", "last", "k"]) (sc := defScope s_folded) (by decide +kernel)) (fun _ _ _ _ _ => pg_name (i := 4) sc_folded.nd rfl (.inl rfl)) (fun _ _ _ _ _ => pts_nil) (fun _ _ _ _ _ => (pe_callL (i := 1) G_plus (hr.mono (by decide)) rfl (by first | exact .inl rfl | exact .inr (.inl rfl) | exact .inr (.inr rfl)) D_plus.kp B_plus .nil pass0 (pa_cons (pe_ix (ix_seqK K) (pv 2) (pv 4) (fun _ _ => rfl)) (pa_cons (pe_ix (ix_seqK K) (pv 2) (pe_op op_add (pv 4) pe_int) (fun _ _ => rfl)) pa_nil))))) (pv 3))))))
      (pss_one (ps_ret (pe_ix (ix_seqK K) (pv 2) pe_int (fun _ _ => rfl)))))), ?_⟩
    walk_at "go"
    refine g_listOf (fun l nl => ?_) (SqL.of ha)
    walk_at "go"
    have s1 := same_new (o := .lst xs) nl
    refine ⟨fun m σ' H' => ∃ (l : Addr) (v3 v4 : Option V) (xs : List V) (Ms : List Int), σ' = [some (.ref a), some (.ref fp), some (.ref l), v3, v4] ∧ Same H H' ∧ H' l = some (.lst xs) ∧ Paired (fun v N => Nr H' v D B N) xs Ms ∧ 0 < Ms.length ∧ Ms.length ≤ 1000 ∧ absum Ms ≤ B ∧ Ms.sum = Ns.sum ∧ m = Ms.length,
      ⟨_, l, none, none, xs, Ns, rfl, s1, upd_same, paired_mono (fun v N h => h.same s1) hp, h0, hl, hab, rfl, rfl⟩, fun m σ H1 hW => ?_⟩
    obtain ⟨l, v3, v4, xs, Ms, rfl, s1, hL, hp, h0, hl, hab, hs, rfl⟩ := hW
    have lx := hp.length
    walk_at "go"
    refine ite2 (fun c => ?_) (fun c => ?_)
    · have c := of_decide_eq_true c
      refine ⟨fun σ' H' => ∃ m', m' < Ms.length ∧ ∃ (l : Addr) (v3 v4 : Option V) (xs : List V) (Ms : List Int), σ' = [some (.ref a), some (.ref fp), some (.ref l), v3, v4] ∧ Same H H' ∧ H' l = some (.lst xs) ∧ Paired (fun v N => Nr H' v D B N) xs Ms ∧ 0 < Ms.length ∧ Ms.length ≤ 1000 ∧ absum Ms ≤ B ∧ Ms.sum = Ns.sum ∧ m' = Ms.length, fun σ' H' z => z, ?_⟩
      walk_at "go"
      any_goals (show (0 : Int) < 2; decide)
      rename_i pl npl
      have e1 : (xs.length : Int) - (xs.length : Int) % 2 = ((xs.length - xs.length % 2 : Nat) : Int) := by omega
      rw [e1, cutV_from (Nat.sub_le _ _)]
      have s2 := same_new (o := .lst (xs.drop (xs.length - xs.length % 2))) npl
      have hpl : upd H1 pl (.lst (xs.drop (xs.length - xs.length % 2))) pl = some (.lst (xs.drop (xs.length - xs.length % 2))) := upd_same
      generalize upd H1 pl (.lst (xs.drop (xs.length - xs.length % 2))) = H2 at s2 hpl
      refine g_iRng3E (xs.length / 2) (rg_two (by omega)) ?_
      intro Dl hD2
      refine lcA (walk_rangeC (lo := 0) (c := 2) (n := xs.length / 2)) hD2 (fun H' k y => ∃ N M, Ms[2 * k]? = some N ∧ Ms[2 * k + 1]? = some M ∧ Nr (delH H' Dl) y D B (N + M)) (by omega) (fun H3 s3 => trivial) (fun H3 H4 k y bt z => ?_) (fun i x H3 H3' hi s3 hD3 y' Kt kt => ?_) (fun H3 ys s3 hY hyl hys => ?_) gm_name
      · obtain ⟨N, M, e1, e2, z⟩ := z
        exact ⟨N, M, e1, e2, z.same (but_same bt)⟩
      · obtain ⟨rfl, rfl⟩ := y'
        refine g_wipe rfl ?_
        have s13 := s2.trans s3
        have hL3 := s13 _ _ hL
        obtain ⟨N, hN⟩ : ∃ N, Ms[2 * i]? = some N := ⟨_, List.getElem?_eq_getElem (by omega)⟩
        obtain ⟨M, hM⟩ : ∃ M, Ms[2 * i + 1]? = some M := ⟨_, List.getElem?_eq_getElem (by omega)⟩
        obtain ⟨x, hx, nx⟩ := paired_get2 hp hN
        obtain ⟨y, hy, ny⟩ := paired_get2 hp hM
        walk_at "go"
        refine g_ixL ?_ (SqL.of hL3) (by rw [show (0 : Int) + (i : Nat) * 2 = ((2 * i : Nat) : Int) by omega]; exact atI_nat hx)
        walk_at "go"
        refine g_ixL ?_ (SqL.of hL3) (by rw [show (0 : Int) + (i : Nat) * 2 + 1 = ((2 * i + 1 : Nat) : Int) by omega]; exact atI_nat hy)
        refine sp_plus (E := E0) (fun t H4 s4 ht => ?_) (nx.same s13).na (ny.same s13).na hD
        obtain ⟨acc, hA⟩ := hD3
        have : (N + M).natAbs ≤ absum (pairUp Ms) := mem_absum (List.mem_of_getElem? (pairUp_at hN hM))
        have := pairUp_abs Ms
        exact kt _ _ s4 ⟨N, M, hN, hM, (ht.re (by omega)).dels (s4 _ _ hA)⟩
      · walk_at "go"
        have s13 := s2.trans s3
        refine g_catK (fun l2 nl2 => ?_) hY (s3 _ _ hpl) (by rw [hyl, List.length_drop]; omega)
        walk_at "go"
        have s4 := same_new (o := .lst (ys ++ xs.drop (xs.length - xs.length % 2))) nl2
        have hpu : Paired (fun v N => Nr H3 v D B N) (ys ++ xs.drop (xs.length - xs.length % 2)) (pairUp Ms) := by
          rw [← List.take_append_drop (Ms.length / 2) (pairUp Ms), pairUp_drop]
          refine paired_app (paired_of (by rw [hyl, List.length_take, pairUp_len]; omega) fun i v N e1 e2 => ?_) ?_
          · obtain ⟨N1, M1, g1, g2, z⟩ := hys i v e1
            have hi : i < Ms.length / 2 := by
              have := (List.getElem?_eq_some_iff.mp e1).1
              omega
            rw [List.getElem?_take_of_lt hi, pairUp_at g1 g2] at e2
            cases e2
            exact z.same mk_same
          · rw [← lx]
            exact paired_mono (fun v N h => h.same s13) (paired_drop _ hp)
        have := pairUp_len Ms
        have := pairUp_abs Ms
        exact ⟨(pairUp Ms).length, by omega, l2, _, _, _, pairUp Ms, rfl, (s1.trans s13).trans s4, upd_same, paired_mono (fun v N h => h.same s4) hpu, by omega, by omega, by omega, by rw [pairUp_sum]; exact hs, rfl⟩
    · have c : ¬ 1 < (xs.length : Int) := fun z => c (decide_eq_true z)
      match Ms, hp, h0, hs, lx with
      | [N], .cons (a := x) hx .nil, _, hs, _ =>
        walk_at "go"
        have e : N = Ns.sum := by
          rw [← hs]
          simp
        exact k _ _ s1 (hx.eq e)
      | [], _, h0, _, _ => exact absurd h0 (by decide)
      | _ :: _ :: _, _, _, _, lx => exact absurd lx (by simp only [List.length_cons]; omega)
end
end Ko


namespace Ko
open PySem L2 PySem.Spec PyProof.Rows Xm
theorem paired_split {α β : Type} {F : α → β → Prop} : ∀ {l l' : List α} {ys : List β}, Paired F (l ++ l') ys → ∃ y1 y2, ys = y1 ++ y2 ∧ Paired F l y1 ∧ Paired F l' y2
  | [], _, ys, q => ⟨[], ys, rfl, .nil, q⟩
  | x :: l, _, _, .cons h r => by
    obtain ⟨y1, y2, rfl, q1, q2⟩ := paired_split (l := l) r
    exact ⟨_ :: y1, y2, rfl, .cons h q1, q2⟩
theorem paired_filter {α β : Type} {L : List α} {pr : α → Bool} {F : α → β → Prop} : ∀ (n : Nat) (ys : List β), n ≤ L.length → Paired (fun i y => ∃ s, L[i]? = some s ∧ F s y) ((List.range n).filter fun i => (L[i]?.map pr).getD false) ys → Paired F ((L.take n).filter pr) ys
  | 0, _, _, q => by
    cases q
    exact .nil
  | n + 1, ys, hn, q => by
    have hL : L[n]? = some L[n] := List.getElem?_eq_getElem hn
    rw [List.range_succ, List.filter_append] at q
    rw [List.take_add_one, hL, List.filter_append]
    obtain ⟨y1, y2, rfl, q1, q2⟩ := paired_split q
    refine paired_app (paired_filter n y1 (by omega) q1) ?_
    show Paired F ([L[n]].filter pr) y2
    by_cases c : pr L[n] = true
    · rw [List.filter_cons_of_pos (by rw [hL]; exact c)] at q2
      rw [List.filter_cons_of_pos (by exact c)]
      cases q2 with
      | cons h r =>
        cases r
        obtain ⟨s, e2, e3⟩ := h
        rw [hL] at e2
        cases e2
        exact .cons e3 .nil
    · rw [List.filter_cons_of_neg (by rw [hL]; exact c)] at q2
      rw [List.filter_cons_of_neg (by exact c)]
      cases q2
      exact .nil
theorem SeqV.stay2 {H H1 H' : Hp} {a : Addr} {xs : List V} (s1 : Same H H1) (s : Same H H') (h : SeqV H a xs) : SeqV H' a xs ∧ H' a = H1 a := by
  refine ⟨h.same s, ?_⟩
  rcases h with h | h
  · rw [s _ _ h, s1 _ _ h]
  · rw [s _ _ h, s1 _ _ h]
theorem same_dels {H H' : Hp} {d : Addr} (n : H d = none) (s : Same H H') : Same H (delH H' d) := fun a o e => by
  rw [delH_ne (ne_of_none e n)]
  exact s _ _ e
theorem dqAll_map {H : Hp} {α : Type} {D : α → Dt} : ∀ {ks : List α} {ys : List V}, Paired (fun k y => Dq H y (D k)) ks ys → DqAll H ys (ks.map D)
  | _, _, .nil => .nil
  | _, _, .cons h r => .cons h (dqAll_map r)

local macro_rules | `(tactic| walk_at "hpS") => `(tactic| with_reducible first
  | exact Same.refl _
  | assumption
  | (refine' Same.trans ?hq (same_new (by assumption)); (case hq => walk_at "hpS"))
  | (refine' Same.trans ?hq (by assumption); (case hq => walk_at "hpS"))
  | fail)
local macro_rules | `(tactic| walk_at "hpH") => `(tactic| with_reducible first
  | assumption
  | exact upd_same
  | (refine' same_at (same_new (by assumption)) ?hq; (case hq => walk_at "hpH"))
  | (refine' same_at (by assumption) ?hq; (case hq => walk_at "hpH"))
  | fail)
local macro_rules | `(tactic| walk_at "hpTo") => `(tactic| with_reducible first
  | assumption
  | (refine' sq_t (same_new (by assumption)) ?hq; (case hq => walk_at "hpTo"))
  | (refine' sq_t (by assumption) ?hq; (case hq => walk_at "hpTo"))
  | fail)
local macro_rules | `(tactic| walk_at "hpT") => `(tactic| with_reducible first
  | (refine' SqT.of ?hq; (case hq => walk_at "hpH"))
  | walk_at "hpTo"
  | fail)
local macro_rules | `(tactic| walk_at "hpLo") => `(tactic| with_reducible first
  | assumption
  | (refine' sq_l (same_new (by assumption)) ?hq; (case hq => walk_at "hpLo"))
  | (refine' sq_l (by assumption) ?hq; (case hq => walk_at "hpLo"))
  | fail)
local macro_rules | `(tactic| walk_at "hpL") => `(tactic| with_reducible first
  | (refine' SqL.of ?hq; (case hq => walk_at "hpH"))
  | walk_at "hpLo"
  | fail)
local macro_rules | `(tactic| walk_at "kit") => `(tactic| with_reducible first
  | exact kit_int_bool | exact kit_int_int | exact kit_int_tuple | exact kit_int_list | exact kit_int_str
  | exact kit_tuple_tuple | exact kit_tuple_int | exact kit_tuple_bool | exact kit_tuple_list | exact kit_tuple_str
  | exact kit_bool_bool | exact kit_bool_int | exact kit_bool_tuple | exact kit_bool_list | exact kit_bool_str
  | exact kit_str_str | exact kit_str_int | exact kit_str_bool | exact kit_str_tuple | exact kit_str_list
  | exact kit_NoneType_int | exact kit_NoneType_bool | exact kit_NoneType_tuple | exact kit_NoneType_list | exact kit_NoneType_str
  | exact kit_list_list | exact kit_list_tuple | exact kit_list_int | exact kit_list_bool | exact kit_list_str
  | fail)
local macro_rules | `(tactic| walk_at "call") => `(tactic| fail)
local macro_rules | `(tactic| walk_at "s0") => `(tactic| with_reducible first
  | refine g_seq ?_ | refine g_asg ?_ | refine g_name ?_ | refine g_ifS ?_ | refine g_ret ?_ | refine g_retN ?_ | refine g_next ?_
  | refine g_par ?_ | refine g_parE ?_ | refine g_drop ?_
  | refine g_c ?_ | refine g_op ?_ | refine g_un ?_ | refine g_cb ?_ | refine g_call ?_ | refine g_nil ?_ | refine g_cons ?_ | refine g_tup ?_ | refine g_lst ?_
  | refine g_test ?_ | refine g_B ?_ | refine g_blF ?_ | refine g_and ?_ | refine g_or ?_ | refine g_not ?_ | refine g_andV ?_ | refine g_orV ?_ | refine g_notV ?_ | refine g_if ?_
  | refine iteT ?_ | refine iteF ?_
  | refine g_chain ?_ | refine g_sl ?_ | refine g_noPart ?_ | refine g_part ?_ | refine g_partI ?_ | refine g_slS ?_ ?side | refine g_M1 ?_ | refine g_M1s ?_ | refine g_starts ?_ | refine g_bm ?_ | refine g_bm0 ?_ | refine g_tyS ?_
  | refine g_Fs ?_ | refine g_JsN ?_ | refine g_JsC ?_ | refine g_JsE ?_ ?side | refine g_fmt ?_ | refine g_fmtI ?_ ?side | refine g_fmtS ?_ ?side | refine g_iList ?_ | refine g_iTup ?_ | refine g_iStr ?_ | refine g_iStrE ?_ | refine g_iRng1 ?_ | refine g_iRng1E ?_ ?side1 ?side2 | refine g_yes ?_ | refine g_ckw ?_ | refine g_dget ?_ | refine g_dictZip ?_ | refine g_gCons ?_ | refine g_gNil ?_ | refine g_revL ?_ | refine g_for ?_ | refine g_lc ?_ | refine g_addS ?_ ?side | refine g_str ?_ ?side | refine g_lenS ?_ ?side
  | refine g_rI0 ?_ | refine g_rI ?_ ?side | refine g_rU ?_ | refine g_abs ?_ | refine g_int ?_ | refine g_intB ?_ | refine g_gcd ?_ | refine g_inS ?_ | refine g_isN0 ?_ | refine g_notN0 ?_
  | fail)
local macro_rules | `(tactic| walk_at "s1") => `(tactic| first
  | ((with_reducible refine' g_var ?h ?_); (case h => exact rfl))
  | ((with_reducible refine' g_new ?h ?_); (case h => exact (by simp only [List.length_cons, List.length_nil]; decide)); intro tnew htnew)
  | ((with_reducible refine' iteDT ?h ?_); (case h => first | exact rfl | assumption))
  | ((with_reducible refine' iteNT ?h ?_); (case h => first | exact rfl | assumption))
  | ((with_reducible refine' iteDF ?h ?_); (case h => first | assumption | (intro z; cases z)))
  | ((with_reducible refine' iteNF ?h ?_); (case h => first | assumption | (intro z; cases z)))
  | ((with_reducible refine' g_eq ?_ ?h); (case h => exact rfl))
  | ((with_reducible refine' g_ne ?_ ?h); (case h => exact rfl))
  | ((with_reducible refine' g_ixT ?_ ?h ?e); (case h => walk_at "hpT"); (case e => first | exact rfl | exact atI_0 | exact atI_1))
  | ((with_reducible refine' g_ixL ?_ ?h ?e); (case h => walk_at "hpL"); (case e => first | exact rfl | exact atI_0 | exact atI_1))
  | ((with_reducible refine' g_isi_int ?_ ?h); (case h => walk_at "kit"))
  | ((with_reducible refine' g_isi_str ?_ ?h); (case h => walk_at "kit"))
  | ((with_reducible refine' g_isi_bl ?_ ?h); (case h => walk_at "kit"))
  | ((with_reducible refine' g_isi_non ?_ ?h); (case h => walk_at "kit"))
  | ((with_reducible refine' g_isi_t ?_ ?t ?h); (case t => walk_at "hpT"); (case h => walk_at "kit"))
  | ((with_reducible refine' g_isi_l ?_ ?t ?h ?l); (case l => walk_at "hpH"); (case t => walk_at "hpL"); (case h => walk_at "kit"))
  | ((with_reducible refine' g_lenT ?_ ?h); (case h => walk_at "hpT"))
  | ((with_reducible refine' g_lenL ?_ ?h); (case h => walk_at "hpL"))
  | ((with_reducible refine' g_split ?_ ?h ?side); (case h => exact rfl); intro pnew hpnew)
  | ((with_reducible refine' g_slL ?h ?_); (case h => walk_at "hpL"); intro pnew hpnew)
  | ((with_reducible refine' g_iListE ?_ ?h); (case h => walk_at "hpL"))
  | ((with_reducible refine' g_iTupE ?_ ?h); (case h => walk_at "hpT"))
  | ((with_reducible refine' g_tyL ?_ ?h); (case h => walk_at "hpL"))
  | ((with_reducible refine' g_join ?_ ?h ?side); (case h => walk_at "hpL"))
  | ((with_reducible refine' g_append ?_ ?h ?side); (case h => walk_at "hpH"))
  | ((with_reducible refine' g_all ?_ ?h); (case h => walk_at "hpL"))
  | ((with_reducible refine' g_gTup ?_ ?h ?n); (case h => walk_at "hpT"); (case n => exact rfl))
  | ((with_reducible refine' g_revLE ?h ?_); (case h => walk_at "hpL"); intro pnew hpnew)
  | ((with_reducible refine' g_isN1 ?_ ?h); (case h => first | assumption | (intro z; cases z)))
  | ((with_reducible refine' g_notN1 ?_ ?h); (case h => first | assumption | (intro z; cases z)))
  | walk_at "call"
  | ((with_reducible refine' iteBT ?h ?_); (case h => first | assumption | exact rfl))
  | ((with_reducible refine' iteBF ?h ?_); (case h => first | assumption | exact rfl))
  | fail)
local macro_rules | `(tactic| walk_at "nrm") => `(tactic| simp only [Bool.not_true, Bool.not_false, decide_eq_true_eq, decide_true, decide_false, Bool.true_and, Bool.false_and, Bool.and_true, Bool.and_false, V.int.injEq, V.bl.injEq, V.str.injEq, List.length_cons, List.length_nil, Bool.not_eq_true', decide_eq_false_iff_not, Int.not_lt, Int.not_le, reduceCtorEq, not_false_eq_true, not_true_eq_false, Decidable.not_not] at *)
local macro_rules | `(tactic| walk_at "sp") => `(tactic| ((with_reducible refine ite2 (fun c => ?_) (fun c => ?_)) <;> (try simp only [decide_eq_true_eq, Bool.not_eq_true', decide_eq_false_iff_not, V.int.injEq, V.bl.injEq, V.str.injEq, Int.not_lt, Int.not_le, reduceCtorEq, Decidable.not_not, Bool.false_eq_true, Bool.true_eq_false] at c) <;> (try (exfalso; omega))))
local macro_rules | `(tactic| walk_at "s") => `(tactic| first | walk_at "s0" | walk_at "s1" | fail)
local macro_rules | `(tactic| walk_at "go") => `(tactic| (try dsimp only [cxK, cxK']); repeat' walk_at "s")
local macro_rules | `(tactic| walk_at "gos") => `(tactic| ((try dsimp only [cxK, cxK']); repeat' (first | walk_at "s" | walk_at "sp" | fail)))

local macro_rules | `(tactic| walk_at "hpNo") => `(tactic| with_reducible first
  | assumption
  | (refine' Nm.ofPr ?hq; (case hq => assumption))
  | (refine' Nm.same (same_new (by assumption)) ?hq; (case hq => walk_at "hpNo"))
  | (refine' Nm.same (by assumption) ?hq; (case hq => walk_at "hpNo"))
  | fail)
local macro_rules | `(tactic| walk_at "hpN") => `(tactic| with_reducible first
  | walk_at "hpNo"
  | (refine' Nm.of ?hq; (case hq => walk_at "hpH"))
  | fail)
local macro_rules | `(tactic| walk_at "hpPo") => `(tactic| with_reducible first
  | assumption
  | (refine' Pr.same (same_new (by assumption)) ?hq; (case hq => walk_at "hpPo"))
  | (refine' Pr.same (by assumption) ?hq; (case hq => walk_at "hpPo"))
  | fail)
local macro_rules | `(tactic| walk_at "hpP") => `(tactic| with_reducible first
  | walk_at "hpPo"
  | (refine' Pr.of ?hq; (case hq => walk_at "hpH"))
  | fail)
local macro_rules | `(tactic| walk_at "hpDo") => `(tactic| with_reducible first
  | assumption
  | exact Dq.int _ | exact Dq.bl _ | exact Dq.str _ | exact Dq.non
  | (refine' Dq.same (same_new (by assumption)) ?hq; (case hq => walk_at "hpDo"))
  | (refine' Dq.same (by assumption) ?hq; (case hq => walk_at "hpDo"))
  | fail)
local macro_rules | `(tactic| walk_at "hpD") => `(tactic| with_reducible first
  | walk_at "hpDo"
  | fail)

local macro_rules | `(tactic| walk_at "call") => `(tactic| first
  | (with_reducible refine g_iSeqA ?_)
  | (with_reducible refine g_dget2 ?_) | (with_reducible refine g_dput ?_)
  | fail)
section
variable {P : Program} {w : World} {K : Fg} {mg : Str → Option Value} {base : Heap} {f f1 f2 f3 : Addr} {fd : FuncData}
theorem ok_surpluses (F : Fun K "surpluses" "surpluses" s_surpluses f fd) (T : Blt mg) (D_face_steps : Df P w K mg base 1 "face_steps" f1 ["face"] spSteps) (D_edge_of : Df P w K mg base 1 "edge_of" f2 ["step"] spEdge) : FnOk P w K mg base CX0 2 f fd ["faces"] spSurp := by
  obtain ⟨_, G_face_steps, B_face_steps⟩ := D_face_steps.ok
  obtain ⟨_, G_edge_of, B_edge_of⟩ := D_edge_of.ok
  refine F.ok sc_surpluses (fun vs H Q E h => ?_) (fun cdv A outer s H vs Q E hr h => ?_)
  · obtain ⟨a, xs, fs, rfl, _⟩ := h
    rfl
  · obtain ⟨a, xs, fs, rfl, ha, hxs, hlen, k⟩ := h
    have hu := hu_of hr
    have lx := hxs.length
    rw [List.length_map] at lx
    refine ⟨_, (pss_cons (ps_set (i := 1) sc_surpluses.nd rfl (.inr rfl) pe_dnewT)
      (pss_cons (ps_for PassesOwn.never rfl (pi_seqA (pv 0)) (pg_name (i := 2) sc_surpluses.nd rfl (.inl rfl))
      (pss_one (ps_for PassesOwn.never rfl (pi_list (pe_call G_face_steps (hr.mono (by decide)) (by rfl) D_face_steps.g D_face_steps.kp B_face_steps .nil pass0 (pa_cons (pv 2) pa_nil))) (pg_name (i := 3) sc_surpluses.nd rfl (.inl rfl))
      (pss_cons (ps_set (i := 4) sc_surpluses.nd rfl (.inl rfl) (pe_call G_edge_of (hr.mono (by decide)) (by rfl) D_edge_of.g D_edge_of.kp B_edge_of .nil pass0 (pa_cons (pv 3) pa_nil)))
      (pss_one (ps_dput hu (pv 1) (pv 4) (pe_op op_add (pe_dget2 hu (pv 1) (pv 4) pe_int ⟨by rfl, by rfl, by rfl, by rfl⟩) (pe_ifExp (pt_cmpR (eqD_K K hr.units) (pv 3) (pv 4) (nomark _)) pe_int (pe_un un_neg pe_int))) rfl))))))
      (pss_one (ps_ret (pe_lc (own := [("edge", 4)]) (g := gName 4) rfl sc_surpluses.nd (pi_list (pe_callB (call_sortedDT rfl) (by rfl) T.n_sorted (by decide +kernel) (pa_cons (pv 1) pa_nil))) (blkOk_by (N := ["faces", "found", "face", "step", "edge"]) (sc := defScope s_surpluses) (by decide +kernel)) (fun _ _ _ _ _ => pg_name (i := 4) sc_surpluses.nd rfl (.inl rfl)) (fun _ _ _ _ _ => (pts_one (pt_cmpR op_ne (pe_dget hu (pv 1) (pv 4) (fun _ _ => rfl)) pe_int (nomark _)))) (fun _ _ _ _ _ => (pe_op (op_catAK K) (pv 4) (pe_tup (pa_cons (pe_dget hu (pv 1) (pv 4) (fun _ _ => rfl)) pa_nil))))))))), ?_⟩
    walk_at "go"
    intro d nd
    walk_at "go"
    have s0 := same_new (o := .dT []) nd
    refine g_seqSeq (ha.same s0) fun J wJ => ?_
    refine for_it wJ (fun i σ H' => ∃ v2 v3 v4, σ = [some (.ref a), some (.ref d), v2, v3, v4] ∧ Same H (delH H' d) ∧ H' d = some (.dT ((countAll (fs.take i)).map entE)) ∧ (countAll (fs.take i)).length ≤ 3 * i) ⟨none, none, none, rfl, same_dels nd s0, upd_same, Nat.le_refl _⟩
      (fun i σ H' _ h => ?_) (fun i x σ H1 H1' hi h hy => ?_) (fun σ H' h => ?_)
    · obtain ⟨v2, v3, v4, rfl, s1, _⟩ := h
      exact ha.stay2 s0 (s1.trans mk_same)
    · obtain ⟨v2, v3, v4, rfl, s1, hd, hl⟩ := h
      obtain ⟨rfl, hx⟩ := hy
      obtain ⟨dd, hdd, qd⟩ := hxs.at hx
      rw [List.getElem?_map] at hdd
      obtain ⟨fc, hfc, rfl⟩ := Option.map_eq_some_iff.mp hdd
      obtain ⟨t, rfl, ht⟩ := fc_tup qd
      walk_at "go"
      refine ⟨t, fc, rfl, mk_same _ _ (s1 _ _ ht), fun D1 ys H3 s3 hD1 hys => ?_⟩
      have hd3 := s3 _ _ hd
      have lys := hys.length
      have l3 := steps_len fc
      generalize hes : countAll (fs.take i) = es at *
      walk_at "go"
      have hD1d : D1 ≠ d := ne_of hD1 hd3 (by intro z; cases z)
      refine for_list (D := { nx := _, rt := _ }) (K := K) (a := D1) (xs := ys) (fun j σ H' => ∃ v3 v4, σ = [some (.ref a), some (.ref d), some (.ref t), v3, v4] ∧ Same (delH H3 d) (delH H' d) ∧ H' d = some (.dT ((((stepsOf fc).take j).foldl bump es).map entE)) ∧ (((stepsOf fc).take j).foldl bump es).length ≤ 3 * i + j)
        ⟨v3, v4, rfl, Same.refl _, hd3, by simpa using hl⟩ (fun j σ H' _ h => ?_) (fun j x σ H4 hx h => ?_) (fun σ H' h => ?_)
      · obtain ⟨_, _, rfl, s4, _⟩ := h
        exact SqL.of (mk_same _ _ (s4 _ _ (mk_at hD1 hD1d)))
      · obtain ⟨v3, v4, rfl, s4, hd4, hl4⟩ := h
        obtain ⟨st, hst, u, rfl, hu3⟩ := paired_get hys hx
        have hj : j < (stepsOf fc).length := (List.getElem?_eq_some_iff.mp hst).1
        have hu4 := mk_same _ _ (s4 _ _ (mk_at hu3 (ne_of hu3 hd3 (by intro z; cases z))))
        generalize hes2 : ((stepsOf fc).take j).foldl bump es = es2 at *
        walk_at "go"
        refine ⟨u, st, rfl, hu4, fun e H5 s5 he => ?_⟩
        have hd5 := s5 _ _ hd4
        have hu5 := s5 _ _ hu4
        walk_at "go"
        refine ⟨d, rfl, .inr ⟨_, .inl hd5⟩, ?_⟩
        walk_at "go"
        refine ⟨_, DGet.t (k := kE (edgeOf st)) hd5 he, ?_⟩
        rw [ent_getD]
        walk_at "go"
        refine g_eqP (p := st) (q := edgeOf st) ?_ ⟨u, rfl, hu5⟩ ⟨e, rfl, he⟩
        have fin : ∀ n : Int, n = (if st = edgeOf st then 1 else -1) → ∃ a' H6, V.ref d = .ref a' ∧ DPut H5 a' (.ref e) (.int (valI es2 (edgeOf st) + n)) H6 ∧ ∃ v3 v4, [some (V.ref a), some (.ref d), some (.ref t), some (.ref u), some (.ref e)] = [some (.ref a), some (.ref d), some (.ref t), v3, v4] ∧ Same (delH H3 d) (delH H6 d) ∧ H6 d = some (.dT ((((stepsOf fc).take (j + 1)).foldl bump es).map entE)) ∧ (((stepsOf fc).take (j + 1)).foldl bump es).length ≤ 3 * i + (j + 1) := fun n hn => by
          refine ⟨d, _, rfl, DPut.t (k := kE (edgeOf st)) hd5 he (Nat.lt_of_lt_of_le (show (es2.map entE).length < 100000 by rw [List.length_map]; omega) (by rw [sizeLine_eq]; decide)), _, _, rfl, ?_, ?_, ?_⟩
          · rw [del_upd]
            exact s4.trans (mk_mono s5)
          · rw [upd_same, ent_put, List.take_add_one, hst, List.foldl_append, hes2, hn]
            rfl
          · rw [List.take_add_one, hst, List.foldl_append, hes2]
            have : (bump es2 st).length ≤ es2.length + 1 := putI_len _ _ _
            show (bump es2 st).length ≤ _
            omega
        by_cases c : st = edgeOf st
        · walk_at "go"
          exact fin 1 (by rw [if_pos c])
        · walk_at "go"
          exact fin (-1) (by rw [if_neg c])
      · obtain ⟨v3, v4, rfl, s4, hd4, hl4⟩ := h
        rw [lys, List.take_length] at hd4 hl4
        refine ⟨_, _, _, rfl, (s1.trans (mk_mono s3)).trans s4, ?_, ?_⟩
        · rw [hd4, List.take_add_one, hfc]
          show _ = some (HO.dT (((fs.take i ++ [fc]).foldl countF []).map entE))
          rw [List.foldl_append]
          show _ = some (HO.dT ((countF (countAll (fs.take i)) fc).map entE))
          rw [hes]
          rfl
        · rw [List.take_add_one, hfc]
          show ((fs.take i ++ [fc]).foldl countF []).length ≤ _
          rw [List.foldl_append]
          show (countF (countAll (fs.take i)) fc).length ≤ _
          rw [hes]
          show ((stepsOf fc).foldl bump es).length ≤ _
          omega
    · obtain ⟨v2, v3, v4, rfl, s1, hd, hl⟩ := h
      rw [lx, List.take_length] at hd hl
      generalize hes : countAll fs = es at *
      walk_at "go"
      refine ⟨d, _, es.map (·.1), rfl, hd, by rw [List.map_map, List.map_map]; rfl, fun ts ks p hp hpw hpt np => ?_⟩
      have s2 := same_new (o := .lst (ts.map V.ref)) np
      have hp2 : upd H' p (.lst (ts.map V.ref)) p = some (.lst (ts.map V.ref)) := upd_same
      generalize upd H' p (.lst (ts.map V.ref)) = H2 at s2 hp2
      have lt := hpt.length
      have lk : ks.length = es.length := by rw [hp.length_eq, List.length_map]
      walk_at "go"
      intro D hD
      refine lcW (walk_list (K := K) (a := p) (xs := ts.map V.ref)) hD (fun i => (ks[i]?.map fun k => !decide (valI es k = 0)).getD false) (fun H' i y => ∃ k, ks[i]? = some k ∧ Dq (delH H' D) y (rowD es k)) (by rw [List.length_map]; omega) (fun H5 s5 => SqL.of (s5 _ _ hp2)) (fun H5 H6 i y bt z => ?_) (fun i x H5 H5' hi s5 hD5 y' Kt Kf ht hf => ?_) (fun H5 ys s5 hY hpp => ?_)
      · obtain ⟨k, e1, e3⟩ := z
        exact ⟨k, e1, e3.same (but_same bt)⟩
      · obtain ⟨rfl, hx⟩ := y'
        obtain ⟨acc, hA⟩ := hD5
        rw [List.getElem?_map] at hx
        obtain ⟨t, htt, rfl⟩ := Option.map_eq_some_iff.mp hx
        obtain ⟨kk, hk, ht0⟩ := paired_get hpt htt
        have ht5 := s5 _ _ (s2 _ _ ht0)
        have hd5 := s5 _ _ (s2 _ _ hd)
        have hmem : kk ∈ es.map (·.1) := hp.mem_iff.mp (List.mem_of_getElem? hk)
        rw [hk] at ht hf
        refine g_wipe rfl ?_
        walk_at "go"
        refine ⟨d, .int (valI es kk), rfl, (ent_some hmem) ▸ DGet.t (k := kE kk) hd5 ht5, ?_⟩
        by_cases c : valI es kk = 0
        · have c' : V.int (valI es kk) = V.int 0 := by rw [c]
          walk_at "go"
          exact hf _ (Same.refl _) (by show (!decide (valI es kk = 0)) = false; rw [decide_eq_true c]; rfl)
        · have c' : ¬ V.int (valI es kk) = V.int 0 := fun z => c (V.int.inj z)
          walk_at "go"
          refine ⟨d, .int (valI es kk), rfl, (ent_some hmem) ▸ DGet.t (k := kE kk) hd5 ht5, ?_⟩
          walk_at "go"
          rename_i p1 np1
          have s6 := same_new (o := .tup [.int (valI es kk)]) np1
          refine ⟨t, p1, [.int kk.1, .int kk.2], [.int (valI es kk)], rfl, rfl, SqT.of (s6 _ _ ht5), SqT.of upd_same, (by show 3 ≤ sizeLine; rw [sizeLine_eq]; decide), (fun z => by cases z), (fun _ z => by cases z), fun _ _ p2 np2 => ?_⟩
          have s7 := same_new (o := .tup ([.int kk.1, .int kk.2] ++ [.int (valI es kk)])) np2
          have hA7 := s7 _ _ (s6 _ _ hA)
          refine ht _ _ (s6.trans s7) (by show (!decide (valI es kk = 0)) = true; rw [decide_eq_false c]; rfl) ⟨kk, rfl, ?_⟩
          exact .tup (mk_at upd_same (fun z => by
            rw [← z, upd_same] at hA7
            cases hA7)) (.cons (.int _) (.cons (.int _) (.cons (.int _) .nil)))
      · walk_at "go"
        have hpf := paired_filter (L := ks) (pr := fun k => !decide (valI es k = 0)) (F := fun k y => Dq (delH H5 D) y (rowD es k)) ks.length ys (Nat.le_refl _) (by
          have e : (ts.map V.ref).length = ks.length := by rw [List.length_map]; exact lt
          rw [e] at hpp
          exact hpp)
        rw [List.take_length] at hpf
        have hq := dqAll_map hpf
        refine k D ys ks H5 (s1.trans (mk_same.trans (s2.trans s5))) ⟨by rw [hes]; exact hp, hpw⟩ hY ?_
        unfold rowsOf
        rw [hes]
        exact hq.same mk_same
end
end Ko


namespace Ko
open PySem L2 PySem.Spec PyProof.Rows Xm
/-- what the text says of the class Net -/
structure NetC (K : Fg) (mg : Str → Option Value) (CN fI : Addr) : Prop where
  g : mg "Net" = some (.ref CN)
  cl : Cls K CN
  mkn : Mk K CN fI
  nC : NoAttr K CN "corners"
  nF : NoAttr K CN "faces"
/-- a net with its corners and faces as data -/
def NetO (CN : Addr) (H : Hp) (v : V) (cs fs : List Dt) : Prop := ∃ x dx ca fa, v = .ref x ∧ H x = some (.ins CN dx [("corners", .ref ca), ("faces", .ref fa)]) ∧ Dq H (.ref ca) (.tup cs) ∧ Dq H (.ref fa) (.tup fs)
theorem NetO.same {CN : Addr} {H H' : Hp} {v : V} {cs fs : List Dt} (s : Same H H') (h : NetO CN H v cs fs) : NetO CN H' v cs fs := by
  obtain ⟨x, dx, ca, fa, e, hx, h1, h2⟩ := h
  exact ⟨x, dx, ca, fa, e, s _ _ hx, h1.same s, h2.same s⟩
section
variable {K : Fg} {mg : Str → Option Value} {CN fI a : Addr} {H : Hp} {Q : VK} {v : V} {cds fds : List Dt}
theorem g_fld {ta : TE} {f : Str} {σ : Sg} (q : ta σ H fun x H1 => ∃ a C dx fs v, x = .ref a ∧ H1 a = some (.ins C dx fs) ∧ Cls K C ∧ NoAttr K C f ∧ fs.lookup f = some v ∧ Q v H1) : tFld K ta f σ H Q := q
theorem fld_c (ZN : NetC K mg CN fI) (h : NetO CN H v cds fds) (k : ∀ ca, Dq H (.ref ca) (.tup cds) → Q (.ref ca) H) : ∃ a C dx fs w, v = .ref a ∧ H a = some (.ins C dx fs) ∧ Cls K C ∧ NoAttr K C "corners" ∧ fs.lookup ("corners" : Str) = some w ∧ Q w H := by
  obtain ⟨x, dx, ca, fa, rfl, hx, h1, h2⟩ := h
  exact ⟨x, CN, dx, _, _, rfl, hx, ZN.cl, ZN.nC, rfl, k ca h1⟩
theorem fld_f (ZN : NetC K mg CN fI) (h : NetO CN H v cds fds) (k : ∀ fa, Dq H (.ref fa) (.tup fds) → Q (.ref fa) H) : ∃ a C dx fs w, v = .ref a ∧ H a = some (.ins C dx fs) ∧ Cls K C ∧ NoAttr K C "faces" ∧ fs.lookup ("faces" : Str) = some w ∧ Q w H := by
  obtain ⟨x, dx, ca, fa, rfl, hx, h1, h2⟩ := h
  exact ⟨x, CN, dx, _, _, rfl, hx, ZN.cl, ZN.nF, rfl, k fa h2⟩
theorem dq_tup {ds : List Dt} (h : Dq H (.ref a) (.tup ds)) : ∃ xs, H a = some (.tup xs) ∧ DqAll H xs ds := by
  cases h with
  | tup h r => exact ⟨_, h, r⟩
theorem dq_lst {ds : List Dt} (h : Dq H (.ref a) (.lst ds)) : ∃ xs, H a = some (.lst xs) ∧ DqAll H xs ds := by
  cases h with
  | lst h r => exact ⟨_, h, r⟩
def tTru (K : Fg) (ta : TE) : TT := fun σ H Q => ta σ H fun x H' => ∃ k, TruV K x H' k ∧ Q k H'
theorem pt_tru {X : Cx} {a : Expr} {ta : TE} (ha : PE X a ta) (he : ∀ whole, isTrue a X.env whole = (do let v ← whole; standAt a.pos; holding [v] (truthy v))) : PT X a (tTru X.K ta) := pt_truth ha he
theorem g_tru {ta : TE} {σ : Sg} {R : Bool → Hp → Prop} (q : ta σ H fun x H' => ∃ k, TruV K x H' k ∧ R k H') : tTru K ta σ H R := q
theorem g_truL {xs : List V} {R : Bool → Prop} (h : H a = some (.lst xs)) (q : R (!xs.isEmpty)) : ∃ k, TruV K (.ref a) H k ∧ R k := ⟨_, .inl ⟨xs, SqL.of h, rfl⟩, q⟩
end
theorem pe_fldK {X : Cx} {e : Expr} {f : Str} {pos : Pos} {ta : TE} (K : Fg) (he : PE X e ta) (hb : attributeBase e f X.env (eval e X.env) = eval e X.env) (h : X.K = K := by rfl) : PE X (.Attribute e f pos) (tFld K ta f) := h ▸ pe_fld he hb
def CnR (c : Cn) (z : Z3) : Prop := (Is 27720 z.1 c.1 ∧ z.1.natAbs ≤ BB) ∧ (Is 27720 z.2.1 c.2.1 ∧ z.2.1.natAbs ≤ BB) ∧ (Is 27720 z.2.2 c.2.2 ∧ z.2.2.natAbs ≤ BB)
def FcOk (m : Nat) (f : Fc) : Prop := 0 ≤ f.1 ∧ f.1 < m ∧ 0 ≤ f.2.1 ∧ f.2.1 < m ∧ 0 ≤ f.2.2 ∧ f.2.2 < m
def zat (zs : List Z3) (i : Int) : Z3 := zs.getD i.toNat (0, 0, 0)
def dets (zs : List Z3) (fs : List Fc) : List Int := fs.map fun f => det3 (zat zs f.1) (zat zs f.2.1) (zat zs f.2.2)
def vol6 (zs : List Z3) (fs : List Fc) : Int := (dets zs fs).sum
abbrev BV : Nat := 6000000000000000000000000000
theorem dq_pq {H : Hp} {v : V} {q : Pq} (h : Dq H v (.pq q)) : Pr H v q := by
  cases h with
  | tup h r =>
    cases r with
    | cons h1 r =>
    cases r with
    | cons h2 r =>
    cases r
    cases h1
    cases h2
    exact ⟨_, rfl, h⟩
theorem co_of {H : Hp} {v : V} {c : Cn} {z : Z3} (h : Dq H v (cnD c)) (k : CnR c z) : Co H v z := by
  unfold cnD at h
  cases h with
  | tup h r =>
    cases r with
    | cons h1 r =>
    cases r with
    | cons h2 r =>
    cases r with
    | cons h3 r =>
    cases r
    exact ⟨_, _, _, _, rfl, h, ⟨_, dq_pq h1, k.1.1, k.1.2⟩, ⟨_, dq_pq h2, k.2.1.1, k.2.1.2⟩, ⟨_, dq_pq h3, k.2.2.1, k.2.2.2⟩⟩
/-- the corner at an index -/
theorem co_at {H : Hp} {xs : List V} {cs : List Cn} {zs : List Z3} {i : Int} (h : DqAll H xs (cs.map cnD)) (p : Paired CnR cs zs) (h0 : 0 ≤ i) (h1 : i < cs.length) : ∃ x, atI xs i = some x ∧ Co H x (zat zs i) := by
  have l1 := h.length
  have l2 := p.length
  rw [List.length_map] at l1
  obtain ⟨x, hx⟩ : ∃ x, xs[i.toNat]? = some x := ⟨_, List.getElem?_eq_getElem (by omega)⟩
  obtain ⟨d, hd, q⟩ := h.at hx
  rw [List.getElem?_map] at hd
  obtain ⟨c, hc, rfl⟩ := Option.map_eq_some_iff.mp hd
  obtain ⟨z, hz, r⟩ := paired_get p hc
  refine ⟨x, ?_, ?_⟩
  · have e : i = ((i.toNat : Nat) : Int) := by omega
    rw [e]
    exact atI_nat hx
  · have e : zat zs i = z := by
      unfold zat
      rw [List.getD_eq_getElem?_getD, hz]
      rfl
    rw [e]
    exact co_of q r
def spOpen (CN : Addr) : Sp := fun vs H Q _ => ∃ v cds fs, vs = [v] ∧ NetO CN H v cds (fs.map fcD) ∧ fs.length ≤ 1000 ∧ ∀ D ys ks H', Same H H' → KeysOf fs ks → H' D = some (.lst ys) → DqAll H' ys ((rowsOf fs ks).map (rowD (countAll fs))) → Q (.ref D) H'
def spClosed (CN : Addr) : Sp := fun vs H Q _ => ∃ v cds fs, vs = [v] ∧ NetO CN H v cds (fs.map fcD) ∧ fs.length ≤ 1000 ∧ ∀ ks H', Same H H' → KeysOf fs ks → Q (.bl (rowsOf fs ks).isEmpty) H'
def spVol (CN : Addr) : Sp := fun vs H Q _ => ∃ v cs fs zs, vs = [v] ∧ NetO CN H v (cs.map cnD) (fs.map fcD) ∧ Paired CnR cs zs ∧ (∀ f ∈ fs, FcOk cs.length f) ∧ fs.length ≤ 1000 ∧ ∀ x H', Same H H' → Nr H' x (D3 * 6) BV (vol6 zs fs) → Q x H'
theorem det_bd {a b c : Z3} (ha : a.1.natAbs ≤ BB ∧ a.2.1.natAbs ≤ BB ∧ a.2.2.natAbs ≤ BB) : True := trivial
theorem absum_le {l : List Int} {B : Nat} (h : ∀ x ∈ l, x.natAbs ≤ B) : absum l ≤ l.length * B := by
  induction l with
  | nil => exact Nat.zero_le _
  | cons a l ih =>
    rw [absum_cons, List.length_cons, Nat.succ_mul]
    have h1 := h a List.mem_cons_self
    have h2 := ih fun x hx => h x (List.mem_cons_of_mem _ hx)
    omega
theorem sum_abs : ∀ l : List Int, l.sum.natAbs ≤ absum l
  | [] => Nat.le_refl _
  | a :: l => by
    have := sum_abs l
    rw [absum_cons, List.sum_cons]
    omega

local macro_rules | `(tactic| walk_at "hpS") => `(tactic| with_reducible first
  | exact Same.refl _
  | assumption
  | (refine' Same.trans ?hq (same_new (by assumption)); (case hq => walk_at "hpS"))
  | (refine' Same.trans ?hq (by assumption); (case hq => walk_at "hpS"))
  | fail)
local macro_rules | `(tactic| walk_at "hpH") => `(tactic| with_reducible first
  | assumption
  | exact upd_same
  | (refine' same_at (same_new (by assumption)) ?hq; (case hq => walk_at "hpH"))
  | (refine' same_at (by assumption) ?hq; (case hq => walk_at "hpH"))
  | fail)
local macro_rules | `(tactic| walk_at "hpTo") => `(tactic| with_reducible first
  | assumption
  | (refine' sq_t (same_new (by assumption)) ?hq; (case hq => walk_at "hpTo"))
  | (refine' sq_t (by assumption) ?hq; (case hq => walk_at "hpTo"))
  | fail)
local macro_rules | `(tactic| walk_at "hpT") => `(tactic| with_reducible first
  | (refine' SqT.of ?hq; (case hq => walk_at "hpH"))
  | walk_at "hpTo"
  | fail)
local macro_rules | `(tactic| walk_at "hpLo") => `(tactic| with_reducible first
  | assumption
  | (refine' sq_l (same_new (by assumption)) ?hq; (case hq => walk_at "hpLo"))
  | (refine' sq_l (by assumption) ?hq; (case hq => walk_at "hpLo"))
  | fail)
local macro_rules | `(tactic| walk_at "hpL") => `(tactic| with_reducible first
  | (refine' SqL.of ?hq; (case hq => walk_at "hpH"))
  | walk_at "hpLo"
  | fail)
local macro_rules | `(tactic| walk_at "kit") => `(tactic| with_reducible first
  | exact kit_int_bool | exact kit_int_int | exact kit_int_tuple | exact kit_int_list | exact kit_int_str
  | exact kit_tuple_tuple | exact kit_tuple_int | exact kit_tuple_bool | exact kit_tuple_list | exact kit_tuple_str
  | exact kit_bool_bool | exact kit_bool_int | exact kit_bool_tuple | exact kit_bool_list | exact kit_bool_str
  | exact kit_str_str | exact kit_str_int | exact kit_str_bool | exact kit_str_tuple | exact kit_str_list
  | exact kit_NoneType_int | exact kit_NoneType_bool | exact kit_NoneType_tuple | exact kit_NoneType_list | exact kit_NoneType_str
  | exact kit_list_list | exact kit_list_tuple | exact kit_list_int | exact kit_list_bool | exact kit_list_str
  | fail)
local macro_rules | `(tactic| walk_at "call") => `(tactic| fail)
local macro_rules | `(tactic| walk_at "s0") => `(tactic| with_reducible first
  | refine g_seq ?_ | refine g_asg ?_ | refine g_name ?_ | refine g_ifS ?_ | refine g_ret ?_ | refine g_retN ?_ | refine g_next ?_
  | refine g_par ?_ | refine g_parE ?_ | refine g_drop ?_
  | refine g_c ?_ | refine g_op ?_ | refine g_un ?_ | refine g_cb ?_ | refine g_call ?_ | refine g_nil ?_ | refine g_cons ?_ | refine g_tup ?_ | refine g_lst ?_
  | refine g_test ?_ | refine g_B ?_ | refine g_blF ?_ | refine g_and ?_ | refine g_or ?_ | refine g_not ?_ | refine g_andV ?_ | refine g_orV ?_ | refine g_notV ?_ | refine g_if ?_
  | refine iteT ?_ | refine iteF ?_
  | refine g_chain ?_ | refine g_sl ?_ | refine g_noPart ?_ | refine g_part ?_ | refine g_partI ?_ | refine g_slS ?_ ?side | refine g_M1 ?_ | refine g_M1s ?_ | refine g_starts ?_ | refine g_bm ?_ | refine g_bm0 ?_ | refine g_tyS ?_
  | refine g_Fs ?_ | refine g_JsN ?_ | refine g_JsC ?_ | refine g_JsE ?_ ?side | refine g_fmt ?_ | refine g_fmtI ?_ ?side | refine g_fmtS ?_ ?side | refine g_iList ?_ | refine g_iTup ?_ | refine g_iStr ?_ | refine g_iStrE ?_ | refine g_iRng1 ?_ | refine g_iRng1E ?_ ?side1 ?side2 | refine g_yes ?_ | refine g_ckw ?_ | refine g_dget ?_ | refine g_dictZip ?_ | refine g_gCons ?_ | refine g_gNil ?_ | refine g_revL ?_ | refine g_for ?_ | refine g_lc ?_ | refine g_addS ?_ ?side | refine g_str ?_ ?side | refine g_lenS ?_ ?side
  | refine g_rI0 ?_ | refine g_rI ?_ ?side | refine g_rU ?_ | refine g_abs ?_ | refine g_int ?_ | refine g_intB ?_ | refine g_gcd ?_ | refine g_inS ?_ | refine g_isN0 ?_ | refine g_notN0 ?_
  | fail)
local macro_rules | `(tactic| walk_at "s1") => `(tactic| first
  | ((with_reducible refine' g_var ?h ?_); (case h => exact rfl))
  | ((with_reducible refine' g_new ?h ?_); (case h => exact (by simp only [List.length_cons, List.length_nil]; decide)); intro tnew htnew)
  | ((with_reducible refine' iteDT ?h ?_); (case h => first | exact rfl | assumption))
  | ((with_reducible refine' iteNT ?h ?_); (case h => first | exact rfl | assumption))
  | ((with_reducible refine' iteDF ?h ?_); (case h => first | assumption | (intro z; cases z)))
  | ((with_reducible refine' iteNF ?h ?_); (case h => first | assumption | (intro z; cases z)))
  | ((with_reducible refine' g_eq ?_ ?h); (case h => exact rfl))
  | ((with_reducible refine' g_ne ?_ ?h); (case h => exact rfl))
  | ((with_reducible refine' g_ixT ?_ ?h ?e); (case h => walk_at "hpT"); (case e => first | exact rfl | exact atI_0 | exact atI_1))
  | ((with_reducible refine' g_ixL ?_ ?h ?e); (case h => walk_at "hpL"); (case e => first | exact rfl | exact atI_0 | exact atI_1))
  | ((with_reducible refine' g_isi_int ?_ ?h); (case h => walk_at "kit"))
  | ((with_reducible refine' g_isi_str ?_ ?h); (case h => walk_at "kit"))
  | ((with_reducible refine' g_isi_bl ?_ ?h); (case h => walk_at "kit"))
  | ((with_reducible refine' g_isi_non ?_ ?h); (case h => walk_at "kit"))
  | ((with_reducible refine' g_isi_t ?_ ?t ?h); (case t => walk_at "hpT"); (case h => walk_at "kit"))
  | ((with_reducible refine' g_isi_l ?_ ?t ?h ?l); (case l => walk_at "hpH"); (case t => walk_at "hpL"); (case h => walk_at "kit"))
  | ((with_reducible refine' g_lenT ?_ ?h); (case h => walk_at "hpT"))
  | ((with_reducible refine' g_lenL ?_ ?h); (case h => walk_at "hpL"))
  | ((with_reducible refine' g_split ?_ ?h ?side); (case h => exact rfl); intro pnew hpnew)
  | ((with_reducible refine' g_slL ?h ?_); (case h => walk_at "hpL"); intro pnew hpnew)
  | ((with_reducible refine' g_iListE ?_ ?h); (case h => walk_at "hpL"))
  | ((with_reducible refine' g_iTupE ?_ ?h); (case h => walk_at "hpT"))
  | ((with_reducible refine' g_tyL ?_ ?h); (case h => walk_at "hpL"))
  | ((with_reducible refine' g_join ?_ ?h ?side); (case h => walk_at "hpL"))
  | ((with_reducible refine' g_append ?_ ?h ?side); (case h => walk_at "hpH"))
  | ((with_reducible refine' g_all ?_ ?h); (case h => walk_at "hpL"))
  | ((with_reducible refine' g_gTup ?_ ?h ?n); (case h => walk_at "hpT"); (case n => exact rfl))
  | ((with_reducible refine' g_revLE ?h ?_); (case h => walk_at "hpL"); intro pnew hpnew)
  | ((with_reducible refine' g_isN1 ?_ ?h); (case h => first | assumption | (intro z; cases z)))
  | ((with_reducible refine' g_notN1 ?_ ?h); (case h => first | assumption | (intro z; cases z)))
  | walk_at "call"
  | ((with_reducible refine' iteBT ?h ?_); (case h => first | assumption | exact rfl))
  | ((with_reducible refine' iteBF ?h ?_); (case h => first | assumption | exact rfl))
  | fail)
local macro_rules | `(tactic| walk_at "nrm") => `(tactic| simp only [Bool.not_true, Bool.not_false, decide_eq_true_eq, decide_true, decide_false, Bool.true_and, Bool.false_and, Bool.and_true, Bool.and_false, V.int.injEq, V.bl.injEq, V.str.injEq, List.length_cons, List.length_nil, Bool.not_eq_true', decide_eq_false_iff_not, Int.not_lt, Int.not_le, reduceCtorEq, not_false_eq_true, not_true_eq_false, Decidable.not_not] at *)
local macro_rules | `(tactic| walk_at "sp") => `(tactic| ((with_reducible refine ite2 (fun c => ?_) (fun c => ?_)) <;> (try simp only [decide_eq_true_eq, Bool.not_eq_true', decide_eq_false_iff_not, V.int.injEq, V.bl.injEq, V.str.injEq, Int.not_lt, Int.not_le, reduceCtorEq, Decidable.not_not, Bool.false_eq_true, Bool.true_eq_false] at c) <;> (try (exfalso; omega))))
local macro_rules | `(tactic| walk_at "s") => `(tactic| first | walk_at "s0" | walk_at "s1" | fail)
local macro_rules | `(tactic| walk_at "go") => `(tactic| (try dsimp only [cxK, cxK']); repeat' walk_at "s")
local macro_rules | `(tactic| walk_at "gos") => `(tactic| ((try dsimp only [cxK, cxK']); repeat' (first | walk_at "s" | walk_at "sp" | fail)))

local macro_rules | `(tactic| walk_at "hpNo") => `(tactic| with_reducible first
  | assumption
  | (refine' Nm.ofPr ?hq; (case hq => assumption))
  | (refine' Nm.same (same_new (by assumption)) ?hq; (case hq => walk_at "hpNo"))
  | (refine' Nm.same (by assumption) ?hq; (case hq => walk_at "hpNo"))
  | fail)
local macro_rules | `(tactic| walk_at "hpN") => `(tactic| with_reducible first
  | walk_at "hpNo"
  | (refine' Nm.of ?hq; (case hq => walk_at "hpH"))
  | fail)
local macro_rules | `(tactic| walk_at "hpPo") => `(tactic| with_reducible first
  | assumption
  | (refine' Pr.same (same_new (by assumption)) ?hq; (case hq => walk_at "hpPo"))
  | (refine' Pr.same (by assumption) ?hq; (case hq => walk_at "hpPo"))
  | fail)
local macro_rules | `(tactic| walk_at "hpP") => `(tactic| with_reducible first
  | walk_at "hpPo"
  | (refine' Pr.of ?hq; (case hq => walk_at "hpH"))
  | fail)
local macro_rules | `(tactic| walk_at "hpDo") => `(tactic| with_reducible first
  | assumption
  | exact Dq.int _ | exact Dq.bl _ | exact Dq.str _ | exact Dq.non
  | (refine' Dq.same (same_new (by assumption)) ?hq; (case hq => walk_at "hpDo"))
  | (refine' Dq.same (by assumption) ?hq; (case hq => walk_at "hpDo"))
  | fail)
local macro_rules | `(tactic| walk_at "hpD") => `(tactic| with_reducible first
  | walk_at "hpDo"
  | fail)

local macro_rules | `(tactic| walk_at "hpR") => `(tactic| with_reducible first
  | assumption
  | (refine' Nr.same (same_new (by assumption)) ?hq; (case hq => walk_at "hpR"))
  | (refine' Nr.same (by assumption) ?hq; (case hq => walk_at "hpR"))
  | fail)
local macro_rules | `(tactic| walk_at "call") => `(tactic| first
  | (with_reducible refine g_fld ?_) | (with_reducible refine g_notT ?_) | (with_reducible refine g_tru ?_)
  | fail)
theorem gm_tri {K : Fg} {i j l : Nat} : ∀ x (σ : Sg) (H : Hp) (R R' : Sg → Hp → Prop), (∀ b H', R b H' → R' b H') → gTup K 3 (gCons (gName i) (gCons (gName j) (gCons (gName l) gNil))) x σ H R → gTup K 3 (gCons (gName i) (gCons (gName j) (gCons (gName l) gNil))) x σ H R' := fun y σ H R R' h q => by
  obtain ⟨a, xs, e1, e2, e3, v, r, e4, v2, r2, e5, v3, r3, e6, e7, q⟩ := q
  exact ⟨a, xs, e1, e2, e3, v, r, e4, v2, r2, e5, v3, r3, e6, e7, h _ _ q⟩
theorem g_wipe3 {K : Fg} {i j l : Nat} {t : Addr} {x y z : V} {σ : Sg} {H : Hp} {vs : List Nat} {R : Sg → Hp → Prop} (h : SqT K H t [x, y, z]) (e : wipe (((σ.set i (some x)).set j (some y)).set l (some z)) vs = wipe σ vs) (q : R (((σ.set i (some x)).set j (some y)).set l (some z)) H) :
    gTup K 3 (gCons (gName i) (gCons (gName j) (gCons (gName l) gNil))) (.ref t) σ H fun σ2 H2 => wipe σ2 vs = wipe σ vs ∧ R σ2 H2 := ⟨t, _, rfl, h, rfl, x, _, rfl, y, _, rfl, z, _, rfl, rfl, e, q⟩
section
variable {P : Program} {w : World} {K : Fg} {mg : Str → Option Value} {base : Heap} {CN fI f fp f1 f2 f3 : Addr} {fd : FuncData}
theorem ok_open_edges (F : Fun K "open_edges" "open_edges" s_open_edges f fd) (T : Blt mg) (ZN : NetC K mg CN fI) (D_surpluses : Df P w K mg base 2 "surpluses" f1 ["faces"] spSurp) : FnOk P w K mg base CX0 3 f fd ["net"] (spOpen CN) := by
  obtain ⟨_, G_surpluses, B_surpluses⟩ := D_surpluses.ok
  refine F.ok sc_open_edges (fun vs H Q E h => ?_) (fun cdv A outer s H vs Q E hr h => ?_)
  · obtain ⟨v, cds, fs, rfl, _⟩ := h
    rfl
  · obtain ⟨v, cds, fs, rfl, hn, hl, k⟩ := h
    refine ⟨_, (pss_one (ps_ret (pe_call G_surpluses (hr.mono (by decide)) (by rfl) D_surpluses.g D_surpluses.kp B_surpluses .nil pass0 (pa_cons (pe_fldK K (pv 0) rfl) pa_nil)))), ?_⟩
    walk_at "go"
    obtain ⟨x, dx, ca, fa, rfl, hx, hc, hf⟩ := hn
    refine ⟨x, CN, dx, _, .ref fa, rfl, hx, ZN.cl, ZN.nF, rfl, ?_⟩
    obtain ⟨xs, h1, h2⟩ := dq_tup hf
    walk_at "go"
    exact ⟨fa, xs, fs, rfl, .inr h1, h2, hl, k⟩
theorem ok_is_closed (F : Fun K "is_closed" "is_closed" s_is_closed f fd) (T : Blt mg) (D_open_edges : Df P w K mg base 3 "open_edges" f1 ["net"] (spOpen CN)) : FnOk P w K mg base CX0 4 f fd ["net"] (spClosed CN) := by
  obtain ⟨_, G_open_edges, B_open_edges⟩ := D_open_edges.ok
  refine F.ok sc_is_closed (fun vs H Q E h => ?_) (fun cdv A outer s H vs Q E hr h => ?_)
  · obtain ⟨v, cds, fs, rfl, _⟩ := h
    rfl
  · obtain ⟨v, cds, fs, rfl, hn, hl, k⟩ := h
    refine ⟨_, (pss_one (ps_ret (pe_notT (pe_call G_open_edges (hr.mono (by decide)) (by rfl) D_open_edges.g D_open_edges.kp B_open_edges .nil pass0 (pa_cons (pv 0) pa_nil))))), ?_⟩
    walk_at "go"
    refine ⟨v, cds, fs, rfl, hn, hl, fun D ys ks H' s' hk hD hq => ?_⟩
    refine g_truL hD ?_
    have e : (!!ys.isEmpty) = (rowsOf fs ks).isEmpty := by
      have := hq.length
      rw [List.length_map] at this
      rw [Bool.not_not]
      cases ys <;> cases hr : rowsOf fs ks <;> simp_all
    rw [e]
    exact k ks H' s' hk
theorem ok_volume (F : Fun K "volume" "volume" s_volume f fd) (T : Blt mg) (ZN : NetC K mg CN fI) (D_plus : Df P w K mg base 2 "plus" fp ["a", "b"] (spOp add)) (D_times : Df P w K mg base 2 "times" f1 ["a", "b"] (spOp mul)) (D_determinant : Df P w K mg base 3 "determinant" f2 ["p", "q", "r"] spDet) (D_folded : Df P w K mg base 3 "folded" f3 ["values", "both"] (spFold fp)) : FnOk P w K mg base CX0 4 f fd ["net"] (spVol CN) := by
  obtain ⟨_, G_times, B_times⟩ := D_times.ok
  obtain ⟨_, G_determinant, B_determinant⟩ := D_determinant.ok
  obtain ⟨_, G_folded, B_folded⟩ := D_folded.ok
  refine F.ok sc_volume (fun vs H Q E h => ?_) (fun cdv A outer s H vs Q E hr h => ?_)
  · obtain ⟨v, cds, fs, zs, rfl, _⟩ := h
    rfl
  · obtain ⟨v, cs, fs, zs, rfl, hn, hz, hf, hl, k⟩ := h
    refine ⟨_, (pss_cons (ps_setLc (i := 1) (own := [("a", 2), ("b", 3), ("c", 4)]) (g := gTup K 3 (gCons (gName 2) (gCons (gName 3) (gCons (gName 4) gNil)))) (tt := tYes) rfl sc_volume.nd rfl rfl (sw_true rfl rfl rfl (by decide +kernel)) (pi_tup (pe_fldK K (pv 0) rfl)) (blkOk_by (N := ["net", "shares", "a", "b", "c"]) (sc := defScope s_volume) (by decide +kernel)) (fun _ _ _ _ _ => by exact pg_tup rfl (pgs_cons (pg_name (i := 2) sc_volume.nd rfl (.inl rfl) (.inr rfl)) (pgs_cons (pg_name (i := 3) sc_volume.nd rfl (.inl rfl) (.inr rfl)) (pgs_cons (pg_name (i := 4) sc_volume.nd rfl (.inl rfl) (.inr rfl)) pgs_nil)))) (fun _ _ _ _ _ => pts_nil) (fun _ _ _ _ _ => (pe_call G_determinant (hr.mono (by decide)) (by rfl) D_determinant.g D_determinant.kp B_determinant .nil pass0 (pa_cons (pe_ix (ix_seqK K) (pe_fldK K (pv 0) rfl) (pv 2) (fun _ _ => rfl)) (pa_cons (pe_ix (ix_seqK K) (pe_fldK K (pv 0) rfl) (pv 3) (fun _ _ => rfl)) (pa_cons (pe_ix (ix_seqK K) (pe_fldK K (pv 0) rfl) (pv 4) (fun _ _ => rfl)) pa_nil))))))
      (pss_one (ps_ret (pe_ifExp (pt_tru (pv 1) (by intro _; rfl)) (pe_call G_times (hr.mono (by decide)) (by rfl) D_times.g D_times.kp B_times .nil pass0 (pa_cons (pe_call G_folded (hr.mono (by decide)) (by rfl) D_folded.g D_folded.kp B_folded .nil pass0 (pa_cons (pv 1) (pa_cons (pe_glob (v := .ref _) (by rfl) D_plus.g rfl) pa_nil))) (pa_cons (pe_tup (pa_cons pe_int (pa_cons pe_int pa_nil))) pa_nil))) (pe_tup (pa_cons pe_int (pa_cons pe_int pa_nil))))))), ?_⟩
    walk_at "go"
    obtain ⟨x, dx, ca, fa, rfl, hx, hca0, hfa⟩ := hn
    refine ⟨x, CN, dx, _, .ref fa, rfl, hx, ZN.cl, ZN.nF, rfl, ?_⟩
    obtain ⟨xs, hca, hxs⟩ := dq_tup hca0
    obtain ⟨ys, hfa, hys⟩ := dq_tup hfa
    have ly := hys.length
    rw [List.length_map] at ly
    walk_at "go"
    intro D hD
    refine lcA (walk_tup (K := K) (a := fa) (xs := ys)) hD (fun H' i y => ∃ N, (dets zs fs)[i]? = some N ∧ Nr (delH H' D) y D3 B3 N) (by omega) (fun H5 s5 => SqT.of (s5 _ _ hfa)) (fun H5 H6 i y bt z => ?_) (fun i x H5 H5' hi s5 hD5 y' Kt kt => ?_) (fun H5 us s5 hU hul hus => ?_) gm_tri
    · obtain ⟨N, e, z⟩ := z
      exact ⟨N, e, z.same (but_same bt)⟩
    · obtain ⟨rfl, hxi⟩ := y'
      obtain ⟨dd, hdd, qd⟩ := hys.at hxi
      rw [List.getElem?_map] at hdd
      obtain ⟨fc, hfc, rfl⟩ := Option.map_eq_some_iff.mp hdd
      obtain ⟨t, rfl, ht⟩ := fc_tup qd
      obtain ⟨b0, b1, b2, b3, b4, b5⟩ := hf fc (List.mem_of_getElem? hfc)
      have hx5 := s5 _ _ hx
      have hca5 := s5 _ _ hca
      obtain ⟨x1, e1, c1⟩ := co_at (hxs.same s5) hz b0 b1
      obtain ⟨x2, e2, c2⟩ := co_at (hxs.same s5) hz b2 b3
      obtain ⟨x3, e3, c3⟩ := co_at (hxs.same s5) hz b4 b5
      refine g_wipe3 (SqT.of (s5 _ _ ht)) rfl ?_
      walk_at "go"
      refine ⟨x, CN, dx, _, .ref ca, rfl, hx5, ZN.cl, ZN.nC, rfl, ?_⟩
      walk_at "go"
      refine g_ixT ?_ (SqT.of hca5) e1
      walk_at "go"
      refine ⟨x, CN, dx, _, .ref ca, rfl, hx5, ZN.cl, ZN.nC, rfl, ?_⟩
      walk_at "go"
      refine g_ixT ?_ (SqT.of hca5) e2
      walk_at "go"
      refine ⟨x, CN, dx, _, .ref ca, rfl, hx5, ZN.cl, ZN.nC, rfl, ?_⟩
      walk_at "go"
      refine g_ixT ?_ (SqT.of hca5) e3
      refine ⟨_, _, _, _, _, _, rfl, c1, c2, c3, fun t H6 s6 hr => ?_⟩
      obtain ⟨acc, hA⟩ := hD5
      exact kt _ _ s6 ⟨_, by unfold dets; rw [List.getElem?_map, hfc]; rfl, hr.dels (s6 _ _ hA)⟩
    · have ldet : (dets zs fs).length = fs.length := List.length_map _
      walk_at "go"
      refine g_truL hU ?_
      have hp : Paired (fun v N => Nr H5 v D3 BV N) us (dets zs fs) := paired_of (by omega) fun i v N e1 e2 => by
        obtain ⟨N', e3, z⟩ := hus i v e1
        rw [e2] at e3
        cases e3
        exact (z.same mk_same).mono (by decide)
      have hB : ∀ N ∈ dets zs fs, N.natAbs ≤ B3 := fun N hN => by
        obtain ⟨i, hi⟩ := List.mem_iff_getElem?.mp hN
        obtain ⟨v, hv⟩ : ∃ v, us[i]? = some v := ⟨_, List.getElem?_eq_getElem (by
          have := (List.getElem?_eq_some_iff.mp hi).1
          omega)⟩
        obtain ⟨N', e3, z⟩ := hus i v hv
        rw [hi] at e3
        cases e3
        exact z.bd
      have hab : absum (dets zs fs) ≤ BV := by
        have h1 := absum_le hB
        rw [ldet] at h1
        have h2 : fs.length * B3 ≤ 1000 * B3 := Nat.mul_le_mul_right _ hl
        have h3 : 1000 * B3 ≤ BV := by decide
        omega
      cases us with
      | nil =>
        walk_at "go"
        rename_i t nt
        have e : vol6 zs fs = 0 := by
          have h1 := sum_abs (dets zs fs)
          have h2 : dets zs fs = [] := List.eq_nil_of_length_eq_zero (by rw [← hp.length]; rfl)
          unfold vol6
          rw [h2]
          rfl
        refine k _ _ (s5.trans (same_new nt)) ?_
        rw [e]
        exact nr_zero upd_same
      | cons u us =>
        have hne : 0 < (dets zs fs).length := by
          rw [← hp.length]
          exact Nat.succ_pos _
        walk_at "go"
        refine ⟨D, _, _, D3, BV, rfl, hU, hp, hne, by omega, hab, ⟨by decide +kernel, by decide +kernel, by decide +kernel, by decide +kernel⟩, fun x H6 s6 hx => ?_⟩
        walk_at "go"
        rename_i t nt
        have h6 : Nr (upd H6 t (.tup [.int 1, .int 6])) (.ref t) 6 1 1 := ⟨(1, 6), ⟨t, rfl, upd_same⟩, ⟨⟨by show (0 : Int) < 6; decide, by decide⟩, by decide⟩, Nat.le_refl _⟩
        refine sp_times (E := E0) (fun t' H7 s7 h7 => ?_) (hx.same (same_new nt)).na h6.na ⟨by decide +kernel, by decide +kernel, by decide +kernel, by decide +kernel⟩ ⟨by decide +kernel, by decide +kernel, by decide +kernel, by decide +kernel⟩
        exact k _ _ (((s5.trans s6).trans (same_new nt)).trans s7) (h7.eq (Int.mul_one _))
end
end Ko


namespace Ko
open PySem L2 PySem.Spec PyProof.Rows Xm
/-- a corner as it is passed -/
def HndD (d : Dt) (c : Cn) : Prop := cornerD d = cnD c ∧ d.isCorner = true ∧ d.noL = true
/-- a number as it is passed -/
def HnN (d : Dt) (q : Pq) : Prop := pairD d = .pq q ∧ d.isNum = true ∧ d.noL = true
theorem Dq.dels {H : Hp} {l : Addr} {xs : List V} {v : V} {d : Dt} (h : Dq H v d) (n : d.noL = true) (hl : H l = some (.lst xs)) : Dq (delH H l) v d := by
  have := h.off (al_one hl) n
  have off_one : offF (one l) H = delH H l := funext fun p => by
    unfold offF one
    by_cases e : p = l
    · rw [decide_eq_true e, if_pos rfl, e, delH_same]
    · rw [decide_eq_false e, delH_ne e]
      rfl
  rw [off_one] at this
  exact this
theorem DqAll.dels {H : Hp} {l : Addr} {xs : List V} (hl : H l = some (.lst xs)) : ∀ {vs : List V} {ds : List Dt}, DqAll H vs ds → Dt.noLs ds = true → DqAll (delH H l) vs ds
  | _, _, .nil, _ => .nil
  | _, _, .cons h r, n => by
    rw [Dt.noLs] at n
    have n := Bool.and_eq_true_iff.mp n
    exact .cons (h.dels n.1 hl) (DqAll.dels hl r n.2)
theorem pick {α β : Type} {G : Nat → α → β → Prop} : ∀ {ys : List α}, (∀ (k : Nat) v, ys[k]? = some v → ∃ d, G k v d) → ∃ ds : List β, ds.length = ys.length ∧ ∀ (k : Nat) v d, ys[k]? = some v → ds[k]? = some d → G k v d
  | [], _ => ⟨[], rfl, fun k v d e _ => by simp at e⟩
  | y :: ys, h => by
    obtain ⟨d0, h0⟩ := h 0 y rfl
    obtain ⟨ds, hl, hd⟩ := pick (G := fun k => G (k + 1)) (ys := ys) fun k v e => h (k + 1) v e
    refine ⟨d0 :: ds, by simp [hl], fun k v d e1 e2 => ?_⟩
    cases k with
    | zero =>
      cases e1
      cases e2
      exact h0
    | succ k => exact hd k v d e1 e2
/-- a number as data -/
theorem nm_dq {M : Hp} {v : V} {q : Pq} (h : Nm M v q) (l : Lo q) : ∃ d, Dq M v d ∧ HnN d q := by
  rcases h with ⟨a, rfl, h⟩ | ⟨rfl, e⟩
  · refine ⟨.pq q, .tup h (.cons (.int _) (.cons (.int _) .nil)), rfl, ?_, rfl⟩
    show (decide (0 < q.2) && decide (Int.gcd q.1 q.2 = 1)) = true
    rw [decide_eq_true l.1, decide_eq_true l.2]
    rfl
  · refine ⟨.int q.1, .int _, ?_, rfl, rfl⟩
    show Dt.tup [.int q.1, .int 1] = .tup [.int q.1, .int q.2]
    rw [e]
theorem nm_del {M : Hp} {D : Addr} {acc : List V} {v : V} {q : Pq} (h : Nm M v q) (hD : M D = some (.lst acc)) : Nm (delH M D) v q := by
  rcases h with ⟨a, rfl, h⟩ | h
  · exact .inl ⟨a, rfl, mk_at h (ne_of h hD (by intro z; cases z))⟩
  · exact .inr h
theorem hnn_nm {M : Hp} {v : V} {d : Dt} {q : Pq} (h : Dq M v d) (k : HnN d q) : Nm M v q := by
  obtain ⟨q', n, e⟩ := num_nm h k.2.1
  rw [k.1] at e
  have e1 : q = q' := by
    injection e with e
    injection e with e1 e
    injection e with e2 e
    injection e1 with e1
    injection e2 with e2
    exact Prod.ext e1 e2
  rw [e1]
  exact n
theorem fcD_good {m : Nat} {f : Fc} (h : FcOk m f) : (fcD f).isFace m = true := by
  obtain ⟨a, b, c⟩ := f
  obtain ⟨h1, h2, h3, h4, h5, h6⟩ := h
  show Dt.isFace m (.tup [.int a, .int b, .int c]) = true
  have g : ∀ {a : Int}, 0 ≤ a → a < m → Dt.inb m (.int a) = true := fun {a} x y => by
    show (decide (0 ≤ a) && decide (a < m)) = true
    rw [decide_eq_true x, decide_eq_true y]
    rfl
  rw [isFace_tup, List.all_cons, List.all_cons, List.all_cons, g h1 h2, g h3 h4, g h5 h6]
  rfl
theorem hnd_tup {d1 d2 d3 : Dt} {q1 q2 q3 : Pq} (h1 : HnN d1 q1) (h2 : HnN d2 q2) (h3 : HnN d3 q3) : HndD (.tup [d1, d2, d3]) (q1, q2, q3) := by
  obtain ⟨a1, b1, c1⟩ := h1
  obtain ⟨a2, b2, c2⟩ := h2
  obtain ⟨a3, b3, c3⟩ := h3
  refine ⟨?_, ?_, ?_⟩
  · show Dt.tup [pairD d1, pairD d2, pairD d3] = _
    rw [a1, a2, a3]
    rfl
  · rw [isCorner_tup, List.all_cons, List.all_cons, List.all_cons, b1, b2, b3]
    rfl
  · rw [Dt.noL, Dt.noLs, Dt.noLs, Dt.noLs, Dt.noLs, c1, c2, c3]
    rfl
/-- the corners as passed, the faces: nothing is wrong -/
theorem good_net {hds : List Dt} {cs : List Cn} {fs : List Fc} (hh : Paired HndD hds cs) (hf : ∀ f ∈ fs, FcOk cs.length f) :
    netBad hds (fs.map fcD) = none ∧ hds.map cornerD = cs.map cnD ∧ Dt.noLs hds = true := by
  have hl := hh.length
  have ex : ∀ (j : Nat) d, hds[j]? = some d → ∃ c, cs[j]? = some c ∧ HndD d c := fun j d e => paired_get hh e
  refine ⟨?_, ?_, noLs_iff.mpr fun d hd => ?_⟩
  · unfold netBad
    rw [badAt_none fun j d e => (ex j d e).elim fun c h => h.2.2.1, hl]
    show (match badAt (Dt.isFace cs.length) (fs.map fcD) with
      | some i => some (("face" : Str), i)
      | none => none) = none
    rw [badAt_none fun j d e => by
      rw [List.getElem?_map] at e
      obtain ⟨f, hf', rfl⟩ := Option.map_eq_some_iff.mp e
      exact fcD_good (hf f (List.mem_of_getElem? hf'))]
  · refine List.ext_getElem? fun j => ?_
    rw [List.getElem?_map, List.getElem?_map]
    cases e : hds[j]? with
    | none =>
      have := List.getElem?_eq_none_iff.mp e
      rw [List.getElem?_eq_none (by omega)]
      rfl
    | some d =>
      obtain ⟨c, hc, h⟩ := ex j d e
      rw [hc]
      show some (cornerD d) = some (cnD c)
      rw [h.1]
  · obtain ⟨j, hj⟩ := List.mem_iff_getElem?.mp hd
    obtain ⟨c, _, h⟩ := ex j d hj
    exact h.2.2
section
variable {K : Fg} {CN C b c l t x : Addr} {H : Hp} {Q : VK} {E : XK} {a' : Addr} {a b' : Addr} {xs ys : List V} {cds fds : List Dt} {N : Nat} {σ : Sg}
theorem sp_net (k1 : netBad cds fds = none → ∀ x H', Same H H' → NetO CN H' (.ref x) (cds.map cornerD) fds → Q (.ref x) H')
    (k2 : ∀ wd i, netBad cds fds = some (wd, i) → ∀ dd H', Same H H' → H' dd = some (exd dd [("index", .int (i : Nat)), ("word", .str wd)]) → E (.ref C) (some dd) H')
    (ha : SeqV H a xs) (hb : SeqV H b' ys) (hxs : DqAll H xs cds) (hys : DqAll H ys fds) (lc : cds.length ≤ 1000) (lf : fds.length ≤ 1000) :
    ∀ x dx, H x = none → H dx = none → dx ≠ x → spNet CN C [.ref x, .ref a, .ref b'] (upd (upd H dx (.own x)) x (.ins CN dx [])) (fun v H2 => v = .non ∧ Q (.ref x) H2) E := by
  intro x dx nx nd ne
  have s0 : Same H (delH (upd (upd H dx (.own x)) x (.ins CN dx [])) x) := fun p o e => by
    have px : p ≠ x := ne_of_none e nx
    rw [delH_ne px, upd_ne px, upd_ne (ne_of_none e nd)]
    exact e
  refine ⟨x, dx, a, b', xs, ys, cds, fds, rfl, upd_same, ha.same s0, hb.same s0, hxs.same s0, hys.same s0, lc, lf, fun e H' ca fa s hx h1 h2 => ⟨rfl, k1 e x H' ((s0.trans s).trans mk_same) ⟨x, dx, ca, fa, rfl, hx, h1.same mk_same, h2.same mk_same⟩⟩, fun wd i e dd H' s hd => k2 wd i e dd H' ((s0.trans s).trans mk_same) (mk_same _ _ hd)⟩
theorem sp_netG {hds : List Dt} {cs : List Cn} {fs : List Fc} (k : ∀ x H', Same H H' → NetO CN H' (.ref x) (cs.map cnD) (fs.map fcD) → Q (.ref x) H') (ha : SeqV H a xs) (hb : SeqV H b' ys) (hxs : DqAll H xs hds) (hys : DqAll H ys (fs.map fcD))
    (hh : Paired HndD hds cs) (hf : ∀ f ∈ fs, FcOk cs.length f) (lc : cs.length ≤ 1000) (lf : fs.length ≤ 1000) :
    ∀ x dx, H x = none → H dx = none → dx ≠ x → spNet CN C [.ref x, .ref a, .ref b'] (upd (upd H dx (.own x)) x (.ins CN dx [])) (fun v H2 => v = .non ∧ Q (.ref x) H2) E := by
  obtain ⟨g1, g2, _⟩ := good_net hh hf
  have hl := hh.length
  refine sp_net (fun _ x H' s h => k x H' s (by rw [← g2]; exact h)) (fun wd i e => by rw [g1] at e; cases e) ha hb hxs hys (by omega) (by rw [List.length_map]; exact lf)
theorem g_make {CX : CXT} {sp : Sp} {dvs : List V} {t : TA} (q : t σ H fun vs H1 => ∀ x dx, H1 x = none → H1 dx = none → dx ≠ x → sp (.ref x :: (vs ++ dvs)) (upd (upd H1 dx (.own x)) x (.ins CN dx [])) (fun v H2 => v = .non ∧ Q (.ref x) H2) E) : tMake CN sp dvs E t σ H Q := q
end
end Ko


namespace Ko
open PySem L2 PySem.Spec PyProof.Rows Xm
abbrev Sp2 := Pq × Pq
def HndS (d : Dt) (s : Sp2) : Prop := ∃ d1 d2, d = .tup [d1, d2] ∧ HnN d1 s.1 ∧ HnN d2 s.2
def loftC (ss : List Sp2) (p : Pq) (ts : List Sp2) (q : Pq) : List Cn := ss.map (fun s => (s.1, s.2, p)) ++ ts.map fun s => (s.1, s.2, q)
def sideF (m : Int) (i : Nat) : List Fc := [(0 + (i : Int), (0 + (i : Int) + 1) % m, m + (0 + (i : Int) + 1) % m), (0 + (i : Int), m + (0 + (i : Int) + 1) % m, m + (0 + (i : Int)))]
def lowF (k : Nat) : Fc := (0, 1 + (k : Int) + 1, 1 + (k : Int))
def topF (m : Int) (k : Nat) : Fc := (m, m + (1 + (k : Int)), m + (1 + (k : Int)) + 1)
def sidesF (m : Int) (n : Nat) : List Fc := (List.range n).flatMap (sideF m)
def loftF (m : Nat) : List Fc := sidesF m m ++ (List.range (m - 2)).map lowF ++ (List.range (m - 2)).map (topF m)
def loftOk (m n : Nat) (p q : Pq) : Bool := decide (m = n) && (decide (3 ≤ m) && under p q)
theorem sides_succ (m : Int) (n : Nat) : sidesF m (n + 1) = sidesF m n ++ sideF m n := by
  unfold sidesF
  rw [List.range_succ, List.flatMap_append]
  simp
theorem sides_len (m : Int) : ∀ n, (sidesF m n).length = 2 * n
  | 0 => rfl
  | n + 1 => by
    rw [sides_succ, List.length_append, sides_len m n]
    show 2 * n + 2 = _
    omega
theorem loftF_len {m : Nat} (h : 3 ≤ m) : (loftF m).length = 4 * m - 4 := by
  unfold loftF
  rw [List.length_append, List.length_append, sides_len, List.length_map, List.length_map, List.length_range]
  omega
theorem loftF_ok {m : Nat} (h : 3 ≤ m) : ∀ f ∈ loftF m, FcOk (2 * m) f := by
  intro f hf
  unfold loftF at hf
  rcases List.mem_append.mp hf with hf | hf
  · rcases List.mem_append.mp hf with hf | hf
    · unfold sidesF at hf
      obtain ⟨i, hi, hf⟩ := List.mem_flatMap.mp hf
      have hi := List.mem_range.mp hi
      have a0 := Int.emod_nonneg (0 + (i : Int) + 1) (b := (m : Int)) (by omega)
      have a1 := Int.emod_lt_of_pos (0 + (i : Int) + 1) (b := (m : Int)) (by omega)
      unfold sideF at hf
      simp only [List.mem_cons, List.not_mem_nil, or_false] at hf
      rcases hf with rfl | rfl
      · unfold FcOk
        dsimp only
        omega
      · unfold FcOk
        dsimp only
        omega
    · obtain ⟨k, hk, rfl⟩ := List.mem_map.mp hf
      have hk := List.mem_range.mp hk
      unfold FcOk lowF
      dsimp only
      omega
  · obtain ⟨k, hk, rfl⟩ := List.mem_map.mp hf
    have hk := List.mem_range.mp hk
    unfold FcOk topF
    dsimp only
    omega
def spLoft (CN CB : Addr) : Sp := fun vs H Q E => ∃ (a b : Addr) (z0 z1 : V) (xs ys : List V) (hds1 hds2 : List Dt) (ss ts : List Sp2) (d0 d1 : Dt) (p q : Pq), vs = [.ref a, z0, .ref b, z1] ∧ SeqV H a xs ∧ SeqV H b ys ∧ DqAll H xs hds1 ∧ DqAll H ys hds2 ∧ Paired HndS hds1 ss ∧ Paired HndS hds2 ts ∧
  Dq H z0 d0 ∧ HnN d0 p ∧ Dq H z1 d1 ∧ HnN d1 q ∧ Sz 4400 p ∧ Sz 4400 q ∧ ss.length ≤ 100 ∧ ts.length ≤ 100 ∧
  (loftOk ss.length ts.length p q = true → ∀ x H', Same H H' → NetO CN H' (.ref x) ((loftC ss p ts q).map cnD) ((loftF ss.length).map fcD) → Q (.ref x) H') ∧
  (loftOk ss.length ts.length p q = false → ∀ d H', Same H H' → (∀ dx, d = some dx → ∃ fs, H' dx = some (exd dx fs)) → E (.ref CB) d H')
theorem g_extend {l b : Addr} {xs zs : List V} {H : Hp} {Q : VK} (q : Q .non (upd H l (.lst (xs ++ zs)))) (h : H l = some (.lst xs)) (h' : H b = some (.lst zs)) (hl : xs.length + zs.length ≤ 100000) : rExtend (.ref l) [.ref b] H Q := ⟨l, b, xs, zs, rfl, rfl, h, h', small_line hl, q⟩
/-- a list that grows, all else beside it -/
structure Gr (H0 : Hp) (l : Addr) (fs : List Fc) (H : Hp) : Prop where
  s : Same H0 (delH H l)
  at_ : ∃ ys, H l = some (.lst ys) ∧ DqAll (delH H l) ys (fs.map fcD)
theorem Gr.same {H0 H H' : Hp} {l : Addr} {fs : List Fc} (g : Gr H0 l fs H) (s : Same H H') : Gr H0 l fs H' := by
  obtain ⟨ys, h1, h2⟩ := g.at_
  exact ⟨g.s.trans (mk_mono s), ys, s _ _ h1, h2.same (mk_mono s)⟩
theorem Gr.ext {H0 H : Hp} {l : Addr} {fs gs : List Fc} {ys zs : List V} (g : Gr H0 l fs H) (h : H l = some (.lst ys)) (hz : DqAll (delH H l) zs (gs.map fcD)) : Gr H0 l (fs ++ gs) (upd H l (.lst (ys ++ zs))) := by
  obtain ⟨ys', h1, h2⟩ := g.at_
  rw [h] at h1
  cases h1
  refine ⟨by rw [del_upd]; exact g.s, _, upd_same, ?_⟩
  rw [del_upd, List.map_append]
  exact DqAll.app h2 hz
theorem fc_noLs (fs : List Fc) : Dt.noLs (fs.map fcD) = true := noLs_iff.mpr fun d hd => by
  obtain ⟨c, _, rfl⟩ := List.mem_map.mp hd
  rfl
theorem dq_fc {H : Hp} {t : Addr} {a b c : Int} (h : H t = some (.tup [.int a, .int b, .int c])) : Dq H (.ref t) (fcD (a, b, c)) := .tup h (.cons (.int _) (.cons (.int _) (.cons (.int _) .nil)))
theorem g_iRng2 {t : TA} {σ : Sg} {H : Hp} {R : It → Hp → Prop} (q : t σ H fun vs H1 => ∃ i j : Int, vs = [.int i, .int j] ∧ (-(2 ^ 62) ≤ i ∧ i < 2 ^ 62 ∧ -(2 ^ 62) ≤ j ∧ j < 2 ^ 62) ∧ R (Itr i (j - i).toNat) H1) : iRng2 t σ H R := q
theorem g_iRng2E {i j : Int} {f : Int → Int → Prop} (q : f i j) (h : -(2 ^ 62) ≤ i ∧ i < 2 ^ 62 ∧ -(2 ^ 62) ≤ j ∧ j < 2 ^ 62) : ∃ i' j' : Int, [V.int i, V.int j] = [.int i', .int j'] ∧ (-(2 ^ 62) ≤ i' ∧ i' < 2 ^ 62 ∧ -(2 ^ 62) ≤ j' ∧ j' < 2 ^ 62) ∧ f i' j' := ⟨i, j, rfl, h, q⟩
theorem sp_compare {H : Hp} {Q : VK} {E : XK} {x y : V} {p q : Pq} (hx : Nm H x p) (hy : Nm H y q) (sp : Sz 4400 p) (sq : Sz 4400 q) (k : ∀ H', Same H H' → Q (.int (if under p q = true then -1 else if under q p = true then 1 else 0)) H') : spCompare [x, y] H Q E := ⟨x, y, p, q, rfl, hx, hy, sp, sq, k⟩
theorem gm_pairS {K : Fg} {i j : Nat} : ∀ x (σ : Sg) (H : Hp) (R R' : Sg → Hp → Prop), (∀ b H', R b H' → R' b H') → gTup K 2 (gCons (gName i) (gCons (gName j) gNil)) x σ H R → gTup K 2 (gCons (gName i) (gCons (gName j) gNil)) x σ H R' := gm_pair
theorem spot_at {H : Hp} {xs : List V} {hds : List Dt} {ss : List Sp2} {i : Nat} {x : V} (h : DqAll H xs hds) (p : Paired HndS hds ss) (e : xs[i]? = some x) : ∃ (t : Addr) (u v : V) (d1 d2 : Dt) (s : Sp2), x = .ref t ∧ H t = some (.tup [u, v]) ∧ ss[i]? = some s ∧ Dq H u d1 ∧ Dq H v d2 ∧ HnN d1 s.1 ∧ HnN d2 s.2 := by
  obtain ⟨d, hd, q⟩ := h.at e
  obtain ⟨s, hs, d1, d2, rfl, n1, n2⟩ := paired_get p hd
  cases q with
  | tup h r =>
    cases r with
    | cons h1 r =>
    cases r with
    | cons h2 r =>
    cases r
    exact ⟨_, _, _, d1, d2, s, rfl, h, hs, h1, h2, n1, n2⟩
theorem hnd_list {H : Hp} : ∀ {zs : List V} {cs : List Cn}, zs.length = cs.length → (∀ (i : Nat) v, zs[i]? = some v → ∃ d c, cs[i]? = some c ∧ Dq H v d ∧ HndD d c) → ∃ hds, DqAll H zs hds ∧ Paired HndD hds cs
  | [], [], _, _ => ⟨[], .nil, .nil⟩
  | v :: zs, c :: cs, hl, h => by
    obtain ⟨d, c', e, q, r⟩ := h 0 v rfl
    cases e
    obtain ⟨hds, q1, q2⟩ := hnd_list (zs := zs) (cs := cs) (by simpa using hl) fun i v e => h (i + 1) v e
    exact ⟨d :: hds, .cons q q1, .cons r q2⟩
  | [], _ :: _, hl, _ => by simp at hl
  | _ :: _, [], hl, _ => by simp at hl
theorem hnd_noLs {hds : List Dt} {cs : List Cn} (h : Paired HndD hds cs) : Dt.noLs hds = true := by
  induction h with
  | nil => rfl
  | cons h _ ih => rw [Dt.noLs, h.2.2, ih]; rfl

local macro_rules | `(tactic| walk_at "hpS") => `(tactic| with_reducible first
  | exact Same.refl _
  | assumption
  | (refine' Same.trans ?hq (same_new (by assumption)); (case hq => walk_at "hpS"))
  | (refine' Same.trans ?hq (by assumption); (case hq => walk_at "hpS"))
  | fail)
local macro_rules | `(tactic| walk_at "hpH") => `(tactic| with_reducible first
  | assumption
  | exact upd_same
  | (refine' same_at (same_new (by assumption)) ?hq; (case hq => walk_at "hpH"))
  | (refine' same_at (by assumption) ?hq; (case hq => walk_at "hpH"))
  | fail)
local macro_rules | `(tactic| walk_at "hpTo") => `(tactic| with_reducible first
  | assumption
  | (refine' sq_t (same_new (by assumption)) ?hq; (case hq => walk_at "hpTo"))
  | (refine' sq_t (by assumption) ?hq; (case hq => walk_at "hpTo"))
  | fail)
local macro_rules | `(tactic| walk_at "hpT") => `(tactic| with_reducible first
  | (refine' SqT.of ?hq; (case hq => walk_at "hpH"))
  | walk_at "hpTo"
  | fail)
local macro_rules | `(tactic| walk_at "hpLo") => `(tactic| with_reducible first
  | assumption
  | (refine' sq_l (same_new (by assumption)) ?hq; (case hq => walk_at "hpLo"))
  | (refine' sq_l (by assumption) ?hq; (case hq => walk_at "hpLo"))
  | fail)
local macro_rules | `(tactic| walk_at "hpL") => `(tactic| with_reducible first
  | (refine' SqL.of ?hq; (case hq => walk_at "hpH"))
  | walk_at "hpLo"
  | fail)
local macro_rules | `(tactic| walk_at "kit") => `(tactic| with_reducible first
  | exact kit_int_bool | exact kit_int_int | exact kit_int_tuple | exact kit_int_list | exact kit_int_str
  | exact kit_tuple_tuple | exact kit_tuple_int | exact kit_tuple_bool | exact kit_tuple_list | exact kit_tuple_str
  | exact kit_bool_bool | exact kit_bool_int | exact kit_bool_tuple | exact kit_bool_list | exact kit_bool_str
  | exact kit_str_str | exact kit_str_int | exact kit_str_bool | exact kit_str_tuple | exact kit_str_list
  | exact kit_NoneType_int | exact kit_NoneType_bool | exact kit_NoneType_tuple | exact kit_NoneType_list | exact kit_NoneType_str
  | exact kit_list_list | exact kit_list_tuple | exact kit_list_int | exact kit_list_bool | exact kit_list_str
  | fail)
local macro_rules | `(tactic| walk_at "call") => `(tactic| fail)
local macro_rules | `(tactic| walk_at "s0") => `(tactic| with_reducible first
  | refine g_seq ?_ | refine g_asg ?_ | refine g_name ?_ | refine g_ifS ?_ | refine g_ret ?_ | refine g_retN ?_ | refine g_next ?_
  | refine g_par ?_ | refine g_parE ?_ | refine g_drop ?_
  | refine g_c ?_ | refine g_op ?_ | refine g_un ?_ | refine g_cb ?_ | refine g_call ?_ | refine g_nil ?_ | refine g_cons ?_ | refine g_tup ?_ | refine g_lst ?_
  | refine g_test ?_ | refine g_B ?_ | refine g_blF ?_ | refine g_and ?_ | refine g_or ?_ | refine g_not ?_ | refine g_andV ?_ | refine g_orV ?_ | refine g_notV ?_ | refine g_if ?_
  | refine iteT ?_ | refine iteF ?_
  | refine g_chain ?_ | refine g_sl ?_ | refine g_noPart ?_ | refine g_part ?_ | refine g_partI ?_ | refine g_slS ?_ ?side | refine g_M1 ?_ | refine g_M1s ?_ | refine g_starts ?_ | refine g_bm ?_ | refine g_bm0 ?_ | refine g_tyS ?_
  | refine g_Fs ?_ | refine g_JsN ?_ | refine g_JsC ?_ | refine g_JsE ?_ ?side | refine g_fmt ?_ | refine g_fmtI ?_ ?side | refine g_fmtS ?_ ?side | refine g_iList ?_ | refine g_iTup ?_ | refine g_iStr ?_ | refine g_iStrE ?_ | refine g_iRng1 ?_ | refine g_iRng1E ?_ ?side1 ?side2 | refine g_yes ?_ | refine g_ckw ?_ | refine g_dget ?_ | refine g_dictZip ?_ | refine g_gCons ?_ | refine g_gNil ?_ | refine g_revL ?_ | refine g_for ?_ | refine g_lc ?_ | refine g_addS ?_ ?side | refine g_str ?_ ?side | refine g_lenS ?_ ?side
  | refine g_rI0 ?_ | refine g_rI ?_ ?side | refine g_rU ?_ | refine g_abs ?_ | refine g_int ?_ | refine g_intB ?_ | refine g_gcd ?_ | refine g_inS ?_ | refine g_isN0 ?_ | refine g_notN0 ?_
  | fail)
local macro_rules | `(tactic| walk_at "s1") => `(tactic| first
  | ((with_reducible refine' g_var ?h ?_); (case h => exact rfl))
  | ((with_reducible refine' g_new ?h ?_); (case h => exact (by simp only [List.length_cons, List.length_nil]; decide)); intro tnew htnew)
  | ((with_reducible refine' iteDT ?h ?_); (case h => first | exact rfl | assumption))
  | ((with_reducible refine' iteNT ?h ?_); (case h => first | exact rfl | assumption))
  | ((with_reducible refine' iteDF ?h ?_); (case h => first | assumption | (intro z; cases z)))
  | ((with_reducible refine' iteNF ?h ?_); (case h => first | assumption | (intro z; cases z)))
  | ((with_reducible refine' g_eq ?_ ?h); (case h => exact rfl))
  | ((with_reducible refine' g_ne ?_ ?h); (case h => exact rfl))
  | ((with_reducible refine' g_ixT ?_ ?h ?e); (case h => walk_at "hpT"); (case e => first | exact rfl | exact atI_0 | exact atI_1))
  | ((with_reducible refine' g_ixL ?_ ?h ?e); (case h => walk_at "hpL"); (case e => first | exact rfl | exact atI_0 | exact atI_1))
  | ((with_reducible refine' g_isi_int ?_ ?h); (case h => walk_at "kit"))
  | ((with_reducible refine' g_isi_str ?_ ?h); (case h => walk_at "kit"))
  | ((with_reducible refine' g_isi_bl ?_ ?h); (case h => walk_at "kit"))
  | ((with_reducible refine' g_isi_non ?_ ?h); (case h => walk_at "kit"))
  | ((with_reducible refine' g_isi_t ?_ ?t ?h); (case t => walk_at "hpT"); (case h => walk_at "kit"))
  | ((with_reducible refine' g_isi_l ?_ ?t ?h ?l); (case l => walk_at "hpH"); (case t => walk_at "hpL"); (case h => walk_at "kit"))
  | ((with_reducible refine' g_lenT ?_ ?h); (case h => walk_at "hpT"))
  | ((with_reducible refine' g_lenL ?_ ?h); (case h => walk_at "hpL"))
  | ((with_reducible refine' g_split ?_ ?h ?side); (case h => exact rfl); intro pnew hpnew)
  | ((with_reducible refine' g_slL ?h ?_); (case h => walk_at "hpL"); intro pnew hpnew)
  | ((with_reducible refine' g_iListE ?_ ?h); (case h => walk_at "hpL"))
  | ((with_reducible refine' g_iTupE ?_ ?h); (case h => walk_at "hpT"))
  | ((with_reducible refine' g_tyL ?_ ?h); (case h => walk_at "hpL"))
  | ((with_reducible refine' g_join ?_ ?h ?side); (case h => walk_at "hpL"))
  | ((with_reducible refine' g_append ?_ ?h ?side); (case h => walk_at "hpH"))
  | ((with_reducible refine' g_all ?_ ?h); (case h => walk_at "hpL"))
  | ((with_reducible refine' g_gTup ?_ ?h ?n); (case h => walk_at "hpT"); (case n => exact rfl))
  | ((with_reducible refine' g_revLE ?h ?_); (case h => walk_at "hpL"); intro pnew hpnew)
  | ((with_reducible refine' g_isN1 ?_ ?h); (case h => first | assumption | (intro z; cases z)))
  | ((with_reducible refine' g_notN1 ?_ ?h); (case h => first | assumption | (intro z; cases z)))
  | walk_at "call"
  | ((with_reducible refine' iteBT ?h ?_); (case h => first | assumption | exact rfl))
  | ((with_reducible refine' iteBF ?h ?_); (case h => first | assumption | exact rfl))
  | fail)
local macro_rules | `(tactic| walk_at "nrm") => `(tactic| simp only [Bool.not_true, Bool.not_false, decide_eq_true_eq, decide_true, decide_false, Bool.true_and, Bool.false_and, Bool.and_true, Bool.and_false, V.int.injEq, V.bl.injEq, V.str.injEq, List.length_cons, List.length_nil, Bool.not_eq_true', decide_eq_false_iff_not, Int.not_lt, Int.not_le, reduceCtorEq, not_false_eq_true, not_true_eq_false, Decidable.not_not] at *)
local macro_rules | `(tactic| walk_at "sp") => `(tactic| ((with_reducible refine ite2 (fun c => ?_) (fun c => ?_)) <;> (try simp only [decide_eq_true_eq, Bool.not_eq_true', decide_eq_false_iff_not, V.int.injEq, V.bl.injEq, V.str.injEq, Int.not_lt, Int.not_le, reduceCtorEq, Decidable.not_not, Bool.false_eq_true, Bool.true_eq_false] at c) <;> (try (exfalso; omega))))
local macro_rules | `(tactic| walk_at "s") => `(tactic| first | walk_at "s0" | walk_at "s1" | fail)
local macro_rules | `(tactic| walk_at "go") => `(tactic| (try dsimp only [cxK, cxK']); repeat' walk_at "s")
local macro_rules | `(tactic| walk_at "gos") => `(tactic| ((try dsimp only [cxK, cxK']); repeat' (first | walk_at "s" | walk_at "sp" | fail)))

local macro_rules | `(tactic| walk_at "hpNo") => `(tactic| with_reducible first
  | assumption
  | (refine' Nm.ofPr ?hq; (case hq => assumption))
  | (refine' Nm.same (same_new (by assumption)) ?hq; (case hq => walk_at "hpNo"))
  | (refine' Nm.same (by assumption) ?hq; (case hq => walk_at "hpNo"))
  | fail)
local macro_rules | `(tactic| walk_at "hpN") => `(tactic| with_reducible first
  | walk_at "hpNo"
  | (refine' Nm.of ?hq; (case hq => walk_at "hpH"))
  | fail)
local macro_rules | `(tactic| walk_at "hpPo") => `(tactic| with_reducible first
  | assumption
  | (refine' Pr.same (same_new (by assumption)) ?hq; (case hq => walk_at "hpPo"))
  | (refine' Pr.same (by assumption) ?hq; (case hq => walk_at "hpPo"))
  | fail)
local macro_rules | `(tactic| walk_at "hpP") => `(tactic| with_reducible first
  | walk_at "hpPo"
  | (refine' Pr.of ?hq; (case hq => walk_at "hpH"))
  | fail)
local macro_rules | `(tactic| walk_at "hpDo") => `(tactic| with_reducible first
  | assumption
  | exact Dq.int _ | exact Dq.bl _ | exact Dq.str _ | exact Dq.non
  | (refine' Dq.same (same_new (by assumption)) ?hq; (case hq => walk_at "hpDo"))
  | (refine' Dq.same (by assumption) ?hq; (case hq => walk_at "hpDo"))
  | fail)
local macro_rules | `(tactic| walk_at "hpD") => `(tactic| with_reducible first
  | walk_at "hpDo"
  | fail)

local macro_rules | `(tactic| walk_at "call") => `(tactic| first
  | ((with_reducible refine' g_lenA ?_ ?h); (case h => assumption))
  | (with_reducible refine g_iSeqA ?_) | (with_reducible refine g_iRng2 ?_) | (with_reducible refine g_iRng2E ?_ ?side)
  | (with_reducible refine g_make (CX := CX0) ?_)
  | fail)
section
variable {P : Program} {w : World} {K : Fg} {mg : Str → Option Value} {base : Heap} {R CB CL CN fI f f1 f2 f3 : Addr} {fd fdI : FuncData}
theorem ok_loft (F : Fun K "loft" "loft" s_loft f fd) (T : Blt mg) (ZL : Bl P w K mg base R CL) (ZN : NetC K mg CN fI) (G_net : FnOk P w K mg base (L2.CX P w) 5 fI fdI ["self", "corners", "faces"] (spNet CN CB)) (B_net : Binds K fdI ["self", "corners", "faces"] [])
    (D_compare : Df P w K mg base 2 "compare" f1 ["a", "b"] spCompare) : FnOk P w K mg base (L2.CX P w) 7 f fd ["lower", "z0", "upper", "z1"] (spLoft CN CL) := by
  obtain ⟨_, G_compare, B_compare⟩ := D_compare.ok
  obtain ⟨_, _, M_BadLoft, F_BadLoft, BP_BadLoft⟩ := ZL.m
  refine F.okX sc_loft (fun vs H Q E h => ?_) (fun cdv A outer s H vs Q E hr h => ?_)
  · obtain ⟨a, b, z0, z1, xs, ys, hds1, hds2, ss, ts, d0, d1, p, q, rfl, _⟩ := h
    rfl
  · obtain ⟨a, b, z0, z1, xs, ys, hds1, hds2, ss, ts, d0, d1, p, q, rfl, ha, hb, hxs, hys, hss, hts, hz0, n0, hz1, n1, zp, zq, l1, l2, kq, ke⟩ := h
    have lx : xs.length = ss.length := hxs.length.trans hss.length
    have ly : ys.length = ts.length := hys.length.trans hts.length
    have rz : Raises (cxOf (CX P w) P w K mg base ["lower", "z0", "upper", "z1", "many", "corners", "x", "y", "faces", "i", "j"] "loft" (defScope s_loft) f cdv A outer s H E) (.ref CL) := raises_own ZL.e.oex.exC ZL.e.oex.tyC
    refine ⟨_, (pss_cons (ps_set (i := 4) sc_loft.nd rfl (.inr rfl) (pe_callB (cg_lenK K) (by rfl) T.n_len (by decide +kernel) (pa_cons (pv 0) pa_nil)))
      (pss_cons (ps_if (PW.pt (pw_or (pt_cmpR op_ne (pe_callB (cg_lenK K) (by rfl) T.n_len (by decide +kernel) (pa_cons (pv 2) pa_nil)) (pv 4) (nomark _)) (pw_or (pt_cmpR op_lt (pv 4) pe_int (nomark _)) (pw_or1 (pt_cmpR op_ge (pe_call G_compare (hr.mono (by decide)) (by rfl) D_compare.g D_compare.kp B_compare .nil pass0 (pa_cons (pv 1) (pa_cons (pv 3) pa_nil))) pe_int (nomark _))))))
      (pss_one (ps_raise rfl (takes_of rfl rfl rfl rfl) (pmk_err rfl (pe_err0 M_BadLoft F_BadLoft (hr.mono (by decide)) (by rfl) ZL.e.g BP_BadLoft)))) pss_nil)
      (pss_cons (ps_set (i := 5) sc_loft.nd rfl (.inl rfl) (pe_op op_cat (pe_lc (own := [("x", 6), ("y", 7)]) (g := gTup K 2 (gCons (gName 6) (gCons (gName 7) gNil))) (tt := tYes) rfl sc_loft.nd (pi_seqA (pv 0)) (blkOk_by (N := ["lower", "z0", "upper", "z1", "many", "corners", "x", "y", "faces", "i", "j"]) (sc := defScope s_loft) (by decide +kernel)) (fun _ _ _ _ _ => by exact pg_tup rfl (pgs_cons (pg_name (i := 6) sc_loft.nd rfl (.inl rfl) (.inr rfl)) (pgs_cons (pg_name (i := 7) sc_loft.nd rfl (.inl rfl) (.inr rfl)) pgs_nil))) (fun _ _ _ _ _ => pts_nil) (fun _ _ _ _ _ => (pe_tup (pa_cons (pv 6) (pa_cons (pv 7) (pa_cons (pv 1) pa_nil)))))) (pe_lc (own := [("x", 6), ("y", 7)]) (g := gTup K 2 (gCons (gName 6) (gCons (gName 7) gNil))) (tt := tYes) rfl sc_loft.nd (pi_seqA (pv 2)) (blkOk_by (N := ["lower", "z0", "upper", "z1", "many", "corners", "x", "y", "faces", "i", "j"]) (sc := defScope s_loft) (by decide +kernel)) (fun _ _ _ _ _ => by exact pg_tup rfl (pgs_cons (pg_name (i := 6) sc_loft.nd rfl (.inl rfl) (.inr rfl)) (pgs_cons (pg_name (i := 7) sc_loft.nd rfl (.inl rfl) (.inr rfl)) pgs_nil))) (fun _ _ _ _ _ => pts_nil) (fun _ _ _ _ _ => (pe_tup (pa_cons (pv 6) (pa_cons (pv 7) (pa_cons (pv 3) pa_nil))))))))
      (pss_cons (ps_set (i := 8) sc_loft.nd rfl (.inl rfl) (pe_lst pa_nil))
      (pss_cons (ps_for (passes_of rfl) rfl (pi_range1 (by rfl) T.n_range (pa_cons (pv 4) pa_nil)) (pg_name (i := 9) sc_loft.nd rfl (.inl rfl))
      (pss_cons (ps_set (i := 10) sc_loft.nd rfl (.inl rfl) (pe_op op_mod (pe_op op_add (pv 9) pe_int) (pv 4)))
      (pss_one (ps_expr (pe_bm PySem.F.plainAttrs_list PySem.F.slot_list_extend PySem.F.type_list_extend mt_extend (pv 8) (pa_cons (pe_lst (pa_cons (pe_tup (pa_cons (pv 9) (pa_cons (pv 10) (pa_cons (pe_op op_add (pv 4) (pv 10)) pa_nil)))) (pa_cons (pe_tup (pa_cons (pv 9) (pa_cons (pe_op op_add (pv 4) (pv 10)) (pa_cons (pe_op op_add (pv 4) (pv 9)) pa_nil)))) pa_nil))) pa_nil))))))
      (pss_cons (ps_expr (pe_bm PySem.F.plainAttrs_list PySem.F.slot_list_extend PySem.F.type_list_extend mt_extend (pv 8) (pa_cons (pe_lc (own := [("j", 10)]) (g := gName 10) (tt := tYes) rfl sc_loft.nd (pi_range2 (by rfl) T.n_range (pa_cons pe_int (pa_cons (pe_op op_sub (pv 4) pe_int) pa_nil))) (blkOk_by (N := ["lower", "z0", "upper", "z1", "many", "corners", "x", "y", "faces", "i", "j"]) (sc := defScope s_loft) (by decide +kernel)) (fun _ _ _ _ _ => pg_name (i := 10) sc_loft.nd rfl (.inl rfl)) (fun _ _ _ _ _ => pts_nil) (fun _ _ _ _ _ => (pe_tup (pa_cons pe_int (pa_cons (pe_op op_add (pv 10) pe_int) (pa_cons (pv 10) pa_nil)))))) pa_nil)))
      (pss_cons (ps_expr (pe_bm PySem.F.plainAttrs_list PySem.F.slot_list_extend PySem.F.type_list_extend mt_extend (pv 8) (pa_cons (pe_lc (own := [("j", 10)]) (g := gName 10) (tt := tYes) rfl sc_loft.nd (pi_range2 (by rfl) T.n_range (pa_cons pe_int (pa_cons (pe_op op_sub (pv 4) pe_int) pa_nil))) (blkOk_by (N := ["lower", "z0", "upper", "z1", "many", "corners", "x", "y", "faces", "i", "j"]) (sc := defScope s_loft) (by decide +kernel)) (fun _ _ _ _ _ => pg_name (i := 10) sc_loft.nd rfl (.inl rfl)) (fun _ _ _ _ _ => pts_nil) (fun _ _ _ _ _ => (pe_tup (pa_cons (pv 4) (pa_cons (pe_op op_add (pv 4) (pv 10)) (pa_cons (pe_op op_add (pe_op op_add (pv 4) (pv 10)) pe_int) pa_nil)))))) pa_nil)))
      (pss_one (ps_ret (pe_make ZN.mkn G_net (hr.mono (by decide)) (by rfl) ZN.g B_net .nil (passes_call (takes_of rfl rfl rfl rfl) (fun _ _ _ _ h => h)) (pa_cons (pv 5) (pa_cons (pv 8) pa_nil)))))))))))), ?_⟩
    by_cases e1 : ¬ ts.length = ss.length
    · have c1 : ¬ V.int (ys.length : Int) = V.int (xs.length : Int) := fun z => e1 (by have := V.int.inj z; omega)
      walk_at "go"
      refine g_rise0 (Q := E) (Same.refl _) rz fun d H2 s2 hd => ke ?_ d H2 s2 hd
      unfold loftOk
      rw [decide_eq_false (fun z => e1 z.symm)]
      rfl
    have e1 := Decidable.not_not.mp e1
    have c1 : V.int (ys.length : Int) = V.int (xs.length : Int) := by rw [lx, ly, e1]
    by_cases e2 : ¬ 3 ≤ ss.length
    · have c2 : (xs.length : Int) < 3 := by omega
      walk_at "go"
      refine g_rise0 (Q := E) (Same.refl _) rz fun d H2 s2 hd => ke ?_ d H2 s2 hd
      unfold loftOk
      rw [decide_eq_false e2, Bool.false_and, Bool.and_false]
    have e2 := Decidable.not_not.mp e2
    have c2 : ¬ (xs.length : Int) < 3 := by omega
    walk_at "go"
    refine sp_compare (hnn_nm hz0 n0) (hnn_nm hz1 n1) zp zq fun H1 s1 => ?_
    cases e3 : under p q with
    | false =>
      have hk : loftOk ss.length ts.length p q = false := by
        unfold loftOk
        rw [e3, Bool.and_false, Bool.and_false]
      rw [if_neg (by decide)]
      cases e4 : under q p with
      | true =>
        rw [if_pos rfl]
        have cm : (0 : Int) ≤ 1 := by decide
        walk_at "go"
        exact g_rise0 (Q := E) s1 rz fun d H2 s2 hd => ke hk d H2 (s1.trans s2) hd
      | false =>
        rw [if_neg (by decide)]
        have cm : (0 : Int) ≤ 0 := by decide
        walk_at "go"
        exact g_rise0 (Q := E) s1 rz fun d H2 s2 hd => ke hk d H2 (s1.trans s2) hd
    | true =>
      have hk : loftOk ss.length ts.length p q = true := by
        unfold loftOk
        rw [e3, decide_eq_true e1.symm, decide_eq_true e2]
        rfl
      have kq := kq hk
      clear ke
      rw [if_pos rfl]
      have cm : ¬ (0 : Int) ≤ -1 := by decide
      walk_at "go"
      have ha1 := ha.same s1
      have hb1 := hb.same s1
      have hxs1 := hxs.same s1
      have hys1 := hys.same s1
      have hz0 := hz0.same s1
      have hz1 := hz1.same s1
      refine g_seqSeq ha1 fun J wJ => ?_
      intro D hD
      refine lcA wJ hD (fun H' i y => ∃ d c, (ss.map fun s => ((s.1, s.2, p) : Cn))[i]? = some c ∧ Dq (delH H' D) y d ∧ HndD d c) (by omega) (fun H5 s5 => ha1.stay s5) (fun H5 H6 i y bt z => ?_) (fun i x H5 H5' hi s5 hD5 y' Kt kt => ?_) (fun H5 us s5 hU hul hus => ?_) gm_pair
      · obtain ⟨d, c, e, z, r⟩ := z
        exact ⟨d, c, e, z.same (but_same bt), r⟩
      · obtain ⟨rfl, hx⟩ := y'
        obtain ⟨t, u, v, g1, g2, s, rfl, ht, hs, q1, q2, m1, m2⟩ := spot_at hxs1 hss hx
        obtain ⟨acc, hA⟩ := hD5
        refine g_wipe2 (SqT.of (s5 _ _ ht)) rfl ?_
        walk_at "go"
        rename_i tn ntn
        have s6 := same_new (o := .tup [u, v, z0]) ntn
        have hh : HndD (.tup [g1, g2, d0]) (s.1, s.2, p) := hnd_tup m1 m2 n0
        refine kt _ _ s6 ⟨_, _, by rw [List.getElem?_map, hs]; rfl, Dq.dels (.tup upd_same (.cons ((q1.same s5).same s6) (.cons ((q2.same s5).same s6) (.cons ((hz0.same s5).same s6) .nil)))) hh.2.2 (s6 _ _ hA), hh⟩
      obtain ⟨hdsA, qA, pA⟩ := hnd_list (H := delH H5 D) (cs := ss.map fun s => ((s.1, s.2, p) : Cn)) (by rw [List.length_map]; omega) hus
      have qA := qA.same mk_same
      walk_at "go"
      have hb5 := hb1.same s5
      have hys5 := hys1.same s5
      have hz1 := hz1.same s5
      refine g_seqSeq hb5 fun J2 wJ2 => ?_
      intro D2 hD2
      refine lcA wJ2 hD2 (fun H' i y => ∃ d c, (ts.map fun s => ((s.1, s.2, q) : Cn))[i]? = some c ∧ Dq (delH H' D2) y d ∧ HndD d c) (by omega) (fun H7 s7 => hb5.stay s7) (fun H7 H6 i y bt z => ?_) (fun i x H7 H7' hi s7 hD7 y' Kt kt => ?_) (fun H7 ws s7 hW hwl hws => ?_) gm_pair
      · obtain ⟨d, c, e, z, r⟩ := z
        exact ⟨d, c, e, z.same (but_same bt), r⟩
      · obtain ⟨rfl, hx⟩ := y'
        obtain ⟨t, u, v, g1, g2, s, rfl, ht, hs, q1, q2, m1, m2⟩ := spot_at hys5 hts hx
        obtain ⟨acc, hA⟩ := hD7
        refine g_wipe2 (SqT.of (s7 _ _ ht)) rfl ?_
        walk_at "go"
        rename_i tn ntn
        have s6 := same_new (o := .tup [u, v, z1]) ntn
        have hh : HndD (.tup [g1, g2, d1]) (s.1, s.2, q) := hnd_tup m1 m2 n1
        refine kt _ _ s6 ⟨_, _, by rw [List.getElem?_map, hs]; rfl, Dq.dels (.tup upd_same (.cons ((q1.same s7).same s6) (.cons ((q2.same s7).same s6) (.cons ((hz1.same s7).same s6) .nil)))) hh.2.2 (s6 _ _ hA), hh⟩
      obtain ⟨hdsB, qB, pB⟩ := hnd_list (H := delH H7 D2) (cs := ts.map fun s => ((s.1, s.2, q) : Cn)) (by rw [List.length_map]; omega) hws
      have qB := qB.same mk_same
      walk_at "go"
      refine g_catK (fun lc nlc => ?_) (s7 _ _ hU) hW (by omega)
      have s8 := same_new (o := .lst (us ++ ws)) nlc
      have qC : DqAll (upd H7 lc (.lst (us ++ ws))) (us ++ ws) (hdsA ++ hdsB) := (DqAll.app (qA.same s7) qB).same s8
      have pC : Paired HndD (hdsA ++ hdsB) (loftC ss p ts q) := paired_app pA pB
      have hC : upd H7 lc (.lst (us ++ ws)) lc = some (.lst (us ++ ws)) := upd_same
      have sC : Same H (upd H7 lc (.lst (us ++ ws))) := ((s1.trans s5).trans s7).trans s8
      generalize upd H7 lc (.lst (us ++ ws)) = H8 at qC hC sC
      clear hU hus hW hws qA qB s5 s7 s8 hD hD2 wJ wJ2
      walk_at "go"
      rename_i l nl
      have nll : lc ≠ l := ne_of_none hC nl
      have g0 : Gr H8 l [] (upd H8 l (.lst [])) := ⟨same_dels nl (same_new nl), [], upd_same, .nil⟩
      generalize upd H8 l (.lst []) = H9 at g0
      have kq : ∀ (x : Addr) (H' : Hp), Same H H' → NetO CN H' (.ref x) ((loftC ss p ts q).map cnD) ((loftF xs.length).map fcD) → Q (.ref x) H' := by
        rw [lx]
        exact kq
      have hm3 : 3 ≤ xs.length := by omega
      have hm100 : xs.length ≤ 100 := by omega
      any_goals omega
      refine for_range (lo := 0) (n := xs.length) (fun i σ H' => ∃ v9 v10, σ = [some (.ref a), some z0, some (.ref b), some z1, some (.int xs.length), some (.ref lc), none, none, some (.ref l), v9, v10] ∧ Gr H8 l (sidesF xs.length i) H') ⟨none, none, rfl, g0⟩ (fun i σ H' hi h => ?_) (fun σ H' h => ?_)
      · obtain ⟨v9, v10, rfl, g⟩ := h
        obtain ⟨fl, hl, hq⟩ := g.at_
        have hfl := hq.length
        rw [List.length_map, sides_len] at hfl
        walk_at "go"
        any_goals omega
        rename_i t1 n1 t2 n2 t3 n3
        refine g_extend (xs := fl) (zs := [.ref t1, .ref t2]) ?_ (by walk_at "hpH") upd_same (by simp only [List.length_cons, List.length_nil]; omega)
        refine ⟨_, _, rfl, ?_⟩
        rw [sides_succ]
        have e1 : t1 ≠ l := (ne_of_none hl n1).symm
        have e2 : t2 ≠ l := (ne_of_none (same_new n1 _ _ hl) n2).symm
        exact Gr.ext (Gr.same (Gr.same (Gr.same g (same_new n1)) (same_new n2)) (same_new n3)) (by walk_at "hpH") (.cons (dq_fc (mk_at (by walk_at "hpH") e1)) (.cons (dq_fc (mk_at (by walk_at "hpH") e2)) .nil))
      · obtain ⟨v9, v10, rfl, g⟩ := h
        obtain ⟨fl, hl, hq⟩ := g.at_
        have hfl := hq.length
        rw [List.length_map, sides_len] at hfl
        walk_at "go"
        any_goals omega
        have en : ((xs.length : Int) - 1 - 1).toNat = xs.length - 2 := by omega
        rw [en]
        intro D3 hD3
        refine lcA (walk_range (lo := 1) (n := xs.length - 2)) hD3 (fun H' k y => Dq (delH H' D3) y (fcD (lowF k))) (by omega) (fun H5 s5 => trivial) (fun H5 H6 i y bt z => z.same (but_same bt)) (fun i x H5 H5' hi s5 hD5 y' Kt kt => ?_) (fun H5 zs s5 hZ hzl hzs => ?_) gm_name
        · obtain ⟨rfl, rfl⟩ := y'
          obtain ⟨acc, hA⟩ := hD5
          refine g_wipe rfl ?_
          walk_at "go"
          rename_i tn ntn
          exact kt _ _ (same_new ntn) (Dq.dels (dq_fc upd_same) rfl (same_new ntn _ _ hA))
        have g5 := g.same s5
        have hl5 := s5 _ _ hl
        have qz : DqAll (delH H5 l) zs (((List.range (xs.length - 2)).map lowF).map fcD) := by
          refine DqAll.dels hl5 (DqAll.same mk_same (dqAll_of (H := delH H5 D3) (by rw [List.length_map, List.length_map, List.length_range]; omega) fun k v e => ?_)) (fc_noLs _)
          refine ⟨_, ?_, hzs k v e⟩
          have hk : k < xs.length - 2 := by
            have := (List.getElem?_eq_some_iff.mp e).1
            omega
          rw [List.getElem?_map, List.getElem?_map, List.getElem?_range hk]
          rfl
        walk_at "go"
        refine g_extend (xs := fl) (zs := zs) ?_ hl5 hZ (by omega)
        have g6 := Gr.ext g5 hl5 qz
        have hC6 : upd H5 l (.lst (fl ++ zs)) lc = some (.lst (us ++ ws)) := by
          have z := mk_same _ _ (g6.s _ _ hC)
          exact z
        generalize upd H5 l (.lst (fl ++ zs)) = H6 at g6
        clear g g5 hl5 hl hq qz hZ hzs s5 hD3 hfl fl hC6
        obtain ⟨fl, hl, hq⟩ := g6.at_
        have hfl := hq.length
        rw [List.length_map, List.length_append, sides_len, List.length_map, List.length_range] at hfl
        walk_at "go"
        any_goals omega
        rw [en]
        intro D3 hD3
        refine lcA (walk_range (lo := 1) (n := xs.length - 2)) hD3 (fun H' k y => Dq (delH H' D3) y (fcD (topF xs.length k))) (by omega) (fun H5 s5 => trivial) (fun H5 H6 i y bt z => z.same (but_same bt)) (fun i x H5 H5' hi s5 hD5 y' Kt kt => ?_) (fun H5 zs s5 hZ hzl hzs => ?_) gm_name
        · obtain ⟨rfl, rfl⟩ := y'
          obtain ⟨acc, hA⟩ := hD5
          refine g_wipe rfl ?_
          walk_at "go"
          rename_i tn ntn
          exact kt _ _ (same_new ntn) (Dq.dels (dq_fc upd_same) rfl (same_new ntn _ _ hA))
        have g5 := g6.same s5
        have hl5 := s5 _ _ hl
        have qz : DqAll (delH H5 l) zs (((List.range (xs.length - 2)).map (topF xs.length)).map fcD) := by
          refine DqAll.dels hl5 (DqAll.same mk_same (dqAll_of (H := delH H5 D3) (by rw [List.length_map, List.length_map, List.length_range]; omega) fun k v e => ?_)) (fc_noLs _)
          refine ⟨_, ?_, hzs k v e⟩
          have hk : k < xs.length - 2 := by
            have := (List.getElem?_eq_some_iff.mp e).1
            omega
          rw [List.getElem?_map, List.getElem?_map, List.getElem?_range hk]
          rfl
        walk_at "go"
        refine g_extend (xs := fl) (zs := zs) ?_ hl5 hZ (by omega)
        have g7 := Gr.ext g5 hl5 qz
        generalize upd H5 l (.lst (fl ++ zs)) = H7 at g7
        clear g6 g5 hl5 hl hq qz hZ hzs s5 hD3 hfl fl
        obtain ⟨fl, hl, hq⟩ := g7.at_
        have s8 : Same H8 H7 := g7.s.trans mk_same
        walk_at "go"
        have hlc : (loftC ss p ts q).length = 2 * xs.length := by
          unfold loftC
          rw [List.length_append, List.length_map, List.length_map]
          omega
        refine sp_netG (hds := hdsA ++ hdsB) (cs := loftC ss p ts q) (fs := loftF xs.length) (fun x H' s hn => kq x H' ((sC.trans s8).trans s) hn) (.inl (s8 _ _ hC)) (.inl hl) (qC.same s8) (hq.same mk_same) pC (by rw [hlc]; exact loftF_ok hm3) (by omega) (by rw [loftF_len hm3]; omega)
end
end Ko


namespace Ko
open PySem L2 PySem.Spec PyProof.Rows Xm
theorem pi_tupK {X : Cx} (K : Fg) {tg l : Expr} {tl : TE} (hl : PE X l tl) (h : X.K = K := by rfl) : PI X tg l (iTup K tl) := h ▸ pi_tup hl
def spD (s : Sp2) : Dt := .tup [.pq s.1, .pq s.2]
def SpOk (s : Sp2) : Prop := Lo s.1 ∧ Lo s.2
theorem sp_noL (s : Sp2) : (spD s).noL = true := rfl
theorem sps_noL (ss : List Sp2) : Dt.noLs (ss.map spD) = true := noLs_iff.mpr fun d hd => by
  obtain ⟨c, _, rfl⟩ := List.mem_map.mp hd
  exact sp_noL c
def spHandedS : Sp := fun vs H Q _ => ∃ (N : Nat) (b c l : Addr) (xs : List V) (ss : List Sp2), vs = [.ref b, .ref l] ∧ Bag N H b c ∧ 20 ≤ N ∧ delH H b l = some (.lst xs) ∧ DqAll (delH H b) xs (ss.map spD) ∧ (∀ s ∈ ss, SpOk s) ∧ ss.length ≤ 10 ∧
  ∀ D H' ys hds, Same (delH H b) (delH H' b) → Bag (N - 20) H' b c → delH H b D = none → D ≠ b → H' D = some (.lst ys) → DqAll (delH H' b) ys hds → Paired HndS hds ss → Dt.noLs hds = true → Q (.ref D) H'
def spL (s : Sp2) : List Pq := [s.1, s.2]

local macro_rules | `(tactic| walk_at "hpS") => `(tactic| with_reducible first
  | exact Same.refl _
  | assumption
  | (refine' Same.trans ?hq (same_new (by assumption)); (case hq => walk_at "hpS"))
  | (refine' Same.trans ?hq (by assumption); (case hq => walk_at "hpS"))
  | fail)
local macro_rules | `(tactic| walk_at "hpH") => `(tactic| with_reducible first
  | assumption
  | exact upd_same
  | (refine' same_at (same_new (by assumption)) ?hq; (case hq => walk_at "hpH"))
  | (refine' same_at (by assumption) ?hq; (case hq => walk_at "hpH"))
  | fail)
local macro_rules | `(tactic| walk_at "hpTo") => `(tactic| with_reducible first
  | assumption
  | (refine' sq_t (same_new (by assumption)) ?hq; (case hq => walk_at "hpTo"))
  | (refine' sq_t (by assumption) ?hq; (case hq => walk_at "hpTo"))
  | fail)
local macro_rules | `(tactic| walk_at "hpT") => `(tactic| with_reducible first
  | (refine' SqT.of ?hq; (case hq => walk_at "hpH"))
  | walk_at "hpTo"
  | fail)
local macro_rules | `(tactic| walk_at "hpLo") => `(tactic| with_reducible first
  | assumption
  | (refine' sq_l (same_new (by assumption)) ?hq; (case hq => walk_at "hpLo"))
  | (refine' sq_l (by assumption) ?hq; (case hq => walk_at "hpLo"))
  | fail)
local macro_rules | `(tactic| walk_at "hpL") => `(tactic| with_reducible first
  | (refine' SqL.of ?hq; (case hq => walk_at "hpH"))
  | walk_at "hpLo"
  | fail)
local macro_rules | `(tactic| walk_at "kit") => `(tactic| with_reducible first
  | exact kit_int_bool | exact kit_int_int | exact kit_int_tuple | exact kit_int_list | exact kit_int_str
  | exact kit_tuple_tuple | exact kit_tuple_int | exact kit_tuple_bool | exact kit_tuple_list | exact kit_tuple_str
  | exact kit_bool_bool | exact kit_bool_int | exact kit_bool_tuple | exact kit_bool_list | exact kit_bool_str
  | exact kit_str_str | exact kit_str_int | exact kit_str_bool | exact kit_str_tuple | exact kit_str_list
  | exact kit_NoneType_int | exact kit_NoneType_bool | exact kit_NoneType_tuple | exact kit_NoneType_list | exact kit_NoneType_str
  | exact kit_list_list | exact kit_list_tuple | exact kit_list_int | exact kit_list_bool | exact kit_list_str
  | fail)
local macro_rules | `(tactic| walk_at "call") => `(tactic| fail)
local macro_rules | `(tactic| walk_at "s0") => `(tactic| with_reducible first
  | refine g_seq ?_ | refine g_asg ?_ | refine g_name ?_ | refine g_ifS ?_ | refine g_ret ?_ | refine g_retN ?_ | refine g_next ?_
  | refine g_par ?_ | refine g_parE ?_ | refine g_drop ?_
  | refine g_c ?_ | refine g_op ?_ | refine g_un ?_ | refine g_cb ?_ | refine g_call ?_ | refine g_nil ?_ | refine g_cons ?_ | refine g_tup ?_ | refine g_lst ?_
  | refine g_test ?_ | refine g_B ?_ | refine g_blF ?_ | refine g_and ?_ | refine g_or ?_ | refine g_not ?_ | refine g_andV ?_ | refine g_orV ?_ | refine g_notV ?_ | refine g_if ?_
  | refine iteT ?_ | refine iteF ?_
  | refine g_chain ?_ | refine g_sl ?_ | refine g_noPart ?_ | refine g_part ?_ | refine g_partI ?_ | refine g_slS ?_ ?side | refine g_M1 ?_ | refine g_M1s ?_ | refine g_starts ?_ | refine g_bm ?_ | refine g_bm0 ?_ | refine g_tyS ?_
  | refine g_Fs ?_ | refine g_JsN ?_ | refine g_JsC ?_ | refine g_JsE ?_ ?side | refine g_fmt ?_ | refine g_fmtI ?_ ?side | refine g_fmtS ?_ ?side | refine g_iList ?_ | refine g_iTup ?_ | refine g_iStr ?_ | refine g_iStrE ?_ | refine g_iRng1 ?_ | refine g_iRng1E ?_ ?side1 ?side2 | refine g_yes ?_ | refine g_ckw ?_ | refine g_dget ?_ | refine g_dictZip ?_ | refine g_gCons ?_ | refine g_gNil ?_ | refine g_revL ?_ | refine g_for ?_ | refine g_lc ?_ | refine g_addS ?_ ?side | refine g_str ?_ ?side | refine g_lenS ?_ ?side
  | refine g_rI0 ?_ | refine g_rI ?_ ?side | refine g_rU ?_ | refine g_abs ?_ | refine g_int ?_ | refine g_intB ?_ | refine g_gcd ?_ | refine g_inS ?_ | refine g_isN0 ?_ | refine g_notN0 ?_
  | fail)
local macro_rules | `(tactic| walk_at "s1") => `(tactic| first
  | ((with_reducible refine' g_var ?h ?_); (case h => exact rfl))
  | ((with_reducible refine' g_new ?h ?_); (case h => exact (by simp only [List.length_cons, List.length_nil]; decide)); intro tnew htnew)
  | ((with_reducible refine' iteDT ?h ?_); (case h => first | exact rfl | assumption))
  | ((with_reducible refine' iteNT ?h ?_); (case h => first | exact rfl | assumption))
  | ((with_reducible refine' iteDF ?h ?_); (case h => first | assumption | (intro z; cases z)))
  | ((with_reducible refine' iteNF ?h ?_); (case h => first | assumption | (intro z; cases z)))
  | ((with_reducible refine' g_eq ?_ ?h); (case h => exact rfl))
  | ((with_reducible refine' g_ne ?_ ?h); (case h => exact rfl))
  | ((with_reducible refine' g_ixT ?_ ?h ?e); (case h => walk_at "hpT"); (case e => first | exact rfl | exact atI_0 | exact atI_1))
  | ((with_reducible refine' g_ixL ?_ ?h ?e); (case h => walk_at "hpL"); (case e => first | exact rfl | exact atI_0 | exact atI_1))
  | ((with_reducible refine' g_isi_int ?_ ?h); (case h => walk_at "kit"))
  | ((with_reducible refine' g_isi_str ?_ ?h); (case h => walk_at "kit"))
  | ((with_reducible refine' g_isi_bl ?_ ?h); (case h => walk_at "kit"))
  | ((with_reducible refine' g_isi_non ?_ ?h); (case h => walk_at "kit"))
  | ((with_reducible refine' g_isi_t ?_ ?t ?h); (case t => walk_at "hpT"); (case h => walk_at "kit"))
  | ((with_reducible refine' g_isi_l ?_ ?t ?h ?l); (case l => walk_at "hpH"); (case t => walk_at "hpL"); (case h => walk_at "kit"))
  | ((with_reducible refine' g_lenT ?_ ?h); (case h => walk_at "hpT"))
  | ((with_reducible refine' g_lenL ?_ ?h); (case h => walk_at "hpL"))
  | ((with_reducible refine' g_split ?_ ?h ?side); (case h => exact rfl); intro pnew hpnew)
  | ((with_reducible refine' g_slL ?h ?_); (case h => walk_at "hpL"); intro pnew hpnew)
  | ((with_reducible refine' g_iListE ?_ ?h); (case h => walk_at "hpL"))
  | ((with_reducible refine' g_iTupE ?_ ?h); (case h => walk_at "hpT"))
  | ((with_reducible refine' g_tyL ?_ ?h); (case h => walk_at "hpL"))
  | ((with_reducible refine' g_join ?_ ?h ?side); (case h => walk_at "hpL"))
  | ((with_reducible refine' g_append ?_ ?h ?side); (case h => walk_at "hpH"))
  | ((with_reducible refine' g_all ?_ ?h); (case h => walk_at "hpL"))
  | ((with_reducible refine' g_gTup ?_ ?h ?n); (case h => walk_at "hpT"); (case n => exact rfl))
  | ((with_reducible refine' g_revLE ?h ?_); (case h => walk_at "hpL"); intro pnew hpnew)
  | ((with_reducible refine' g_isN1 ?_ ?h); (case h => first | assumption | (intro z; cases z)))
  | ((with_reducible refine' g_notN1 ?_ ?h); (case h => first | assumption | (intro z; cases z)))
  | walk_at "call"
  | ((with_reducible refine' iteBT ?h ?_); (case h => first | assumption | exact rfl))
  | ((with_reducible refine' iteBF ?h ?_); (case h => first | assumption | exact rfl))
  | fail)
local macro_rules | `(tactic| walk_at "nrm") => `(tactic| simp only [Bool.not_true, Bool.not_false, decide_eq_true_eq, decide_true, decide_false, Bool.true_and, Bool.false_and, Bool.and_true, Bool.and_false, V.int.injEq, V.bl.injEq, V.str.injEq, List.length_cons, List.length_nil, Bool.not_eq_true', decide_eq_false_iff_not, Int.not_lt, Int.not_le, reduceCtorEq, not_false_eq_true, not_true_eq_false, Decidable.not_not] at *)
local macro_rules | `(tactic| walk_at "sp") => `(tactic| ((with_reducible refine ite2 (fun c => ?_) (fun c => ?_)) <;> (try simp only [decide_eq_true_eq, Bool.not_eq_true', decide_eq_false_iff_not, V.int.injEq, V.bl.injEq, V.str.injEq, Int.not_lt, Int.not_le, reduceCtorEq, Decidable.not_not, Bool.false_eq_true, Bool.true_eq_false] at c) <;> (try (exfalso; omega))))
local macro_rules | `(tactic| walk_at "s") => `(tactic| first | walk_at "s0" | walk_at "s1" | fail)
local macro_rules | `(tactic| walk_at "go") => `(tactic| (try dsimp only [cxK, cxK']); repeat' walk_at "s")
local macro_rules | `(tactic| walk_at "gos") => `(tactic| ((try dsimp only [cxK, cxK']); repeat' (first | walk_at "s" | walk_at "sp" | fail)))

local macro_rules | `(tactic| walk_at "hpNo") => `(tactic| with_reducible first
  | assumption
  | (refine' Nm.ofPr ?hq; (case hq => assumption))
  | (refine' Nm.same (same_new (by assumption)) ?hq; (case hq => walk_at "hpNo"))
  | (refine' Nm.same (by assumption) ?hq; (case hq => walk_at "hpNo"))
  | fail)
local macro_rules | `(tactic| walk_at "hpN") => `(tactic| with_reducible first
  | walk_at "hpNo"
  | (refine' Nm.of ?hq; (case hq => walk_at "hpH"))
  | fail)
local macro_rules | `(tactic| walk_at "hpPo") => `(tactic| with_reducible first
  | assumption
  | (refine' Pr.same (same_new (by assumption)) ?hq; (case hq => walk_at "hpPo"))
  | (refine' Pr.same (by assumption) ?hq; (case hq => walk_at "hpPo"))
  | fail)
local macro_rules | `(tactic| walk_at "hpP") => `(tactic| with_reducible first
  | walk_at "hpPo"
  | (refine' Pr.of ?hq; (case hq => walk_at "hpH"))
  | fail)
local macro_rules | `(tactic| walk_at "hpDo") => `(tactic| with_reducible first
  | assumption
  | exact Dq.int _ | exact Dq.bl _ | exact Dq.str _ | exact Dq.non
  | (refine' Dq.same (same_new (by assumption)) ?hq; (case hq => walk_at "hpDo"))
  | (refine' Dq.same (by assumption) ?hq; (case hq => walk_at "hpDo"))
  | fail)
local macro_rules | `(tactic| walk_at "hpD") => `(tactic| with_reducible first
  | walk_at "hpDo"
  | fail)

local macro_rules | `(tactic| walk_at "hpM") => `(tactic| with_reducible first
  | assumption
  | (refine' mk_new ?hn ?hB; (case hn => assumption); (case hB => walk_at "hpB"))
  | (refine' mk_tup ?hn ?hB; (case hn => assumption); (case hB => walk_at "hpB"))
  | (refine' same_at (mk_upd (by assumption)) ?hq; (case hq => walk_at "hpM"))
  | (refine' same_at (show Same (delH _ _) (delH _ _) by assumption) ?hq; (case hq => walk_at "hpM"))
  | (refine' same_at (mk_mono (by assumption)) ?hq; (case hq => walk_at "hpM"))
  | fail)
local macro_rules | `(tactic| walk_at "hpSM") => `(tactic| with_reducible first
  | exact Same.refl _
  | assumption
  | (refine' Same.trans ?hq (mk_upd (by assumption)); (case hq => walk_at "hpSM"))
  | (refine' Same.trans ?hq (show Same (delH _ _) (delH _ _) by assumption); (case hq => walk_at "hpSM"))
  | (refine' Same.trans ?hq (mk_mono (by assumption)); (case hq => walk_at "hpSM"))
  | fail)
local macro_rules | `(tactic| walk_at "hpB") => `(tactic| with_reducible first
  | assumption
  | (refine' bag_upd ?hq (by assumption); (case hq => walk_at "hpB"))
  | (refine' bag_same ?hq (by assumption); (case hq => walk_at "hpB"))
  | fail)
local macro_rules | `(tactic| walk_at "hpHo") => `(tactic| with_reducible first
  | assumption
  | exact upd_same
  | (refine' same_at (same_new (by assumption)) ?hq; (case hq => walk_at "hpHo"))
  | (refine' same_at (by assumption) ?hq; (case hq => walk_at "hpHo"))
  | fail)
local macro_rules | `(tactic| walk_at "hpH") => `(tactic| with_reducible first
  | walk_at "hpHo"
  | (refine' same_at mk_same ?hq; (case hq => walk_at "hpM"))
  | fail)
local macro_rules | `(tactic| walk_at "hpNo") => `(tactic| with_reducible first
  | assumption
  | (refine' Nm.ofPr ?hq; (case hq => assumption))
  | (refine' Nm.same (same_new (by assumption)) ?hq; (case hq => walk_at "hpNo"))
  | (refine' Nm.same (by assumption) ?hq; (case hq => walk_at "hpNo"))
  | fail)
local macro_rules | `(tactic| walk_at "hpNMo") => `(tactic| with_reducible first
  | assumption
  | (refine' Nm.ofPr ?hq; (case hq => assumption))
  | (refine' Nm.same (mk_upd (by assumption)) ?hq; (case hq => walk_at "hpNMo"))
  | (refine' Nm.same (show Same (delH _ _) (delH _ _) by assumption) ?hq; (case hq => walk_at "hpNMo"))
  | (refine' Nm.same (mk_mono (by assumption)) ?hq; (case hq => walk_at "hpNMo"))
  | fail)
local macro_rules | `(tactic| walk_at "hpNM") => `(tactic| with_reducible first
  | walk_at "hpNMo"
  | (refine' Nm.of ?hq; (case hq => walk_at "hpM"))
  | fail)
local macro_rules | `(tactic| walk_at "hpN") => `(tactic| with_reducible first
  | walk_at "hpNo"
  | (refine' Nm.same mk_same ?hq; (case hq => walk_at "hpNMo"))
  | (refine' Nm.of ?hq; (case hq => walk_at "hpH"))
  | fail)
local macro_rules | `(tactic| walk_at "hpPo") => `(tactic| with_reducible first
  | assumption
  | (refine' Pr.same (same_new (by assumption)) ?hq; (case hq => walk_at "hpPo"))
  | (refine' Pr.same (by assumption) ?hq; (case hq => walk_at "hpPo"))
  | fail)
local macro_rules | `(tactic| walk_at "hpPMo") => `(tactic| with_reducible first
  | assumption
  | (refine' Pr.same (mk_upd (by assumption)) ?hq; (case hq => walk_at "hpPMo"))
  | (refine' Pr.same (show Same (delH _ _) (delH _ _) by assumption) ?hq; (case hq => walk_at "hpPMo"))
  | (refine' Pr.same (mk_mono (by assumption)) ?hq; (case hq => walk_at "hpPMo"))
  | fail)
local macro_rules | `(tactic| walk_at "hpPM") => `(tactic| with_reducible first
  | walk_at "hpPMo"
  | (refine' Pr.of ?hq; (case hq => walk_at "hpM"))
  | fail)
local macro_rules | `(tactic| walk_at "hpP") => `(tactic| with_reducible first
  | walk_at "hpPo"
  | (refine' Pr.same mk_same ?hq; (case hq => walk_at "hpPMo"))
  | (refine' Pr.of ?hq; (case hq => walk_at "hpH"))
  | fail)
local macro_rules | `(tactic| walk_at "hpDo") => `(tactic| with_reducible first
  | assumption
  | exact Dq.int _ | exact Dq.bl _ | exact Dq.str _ | exact Dq.non
  | (refine' Dq.same (same_new (by assumption)) ?hq; (case hq => walk_at "hpDo"))
  | (refine' Dq.same (by assumption) ?hq; (case hq => walk_at "hpDo"))
  | fail)
local macro_rules | `(tactic| walk_at "hpDMo") => `(tactic| with_reducible first
  | assumption
  | exact Dq.int _ | exact Dq.bl _ | exact Dq.str _ | exact Dq.non
  | (refine' Dq.same (mk_upd (by assumption)) ?hq; (case hq => walk_at "hpDMo"))
  | (refine' Dq.same (show Same (delH _ _) (delH _ _) by assumption) ?hq; (case hq => walk_at "hpDMo"))
  | (refine' Dq.same (mk_mono (by assumption)) ?hq; (case hq => walk_at "hpDMo"))
  | fail)
local macro_rules | `(tactic| walk_at "hpDM") => `(tactic| with_reducible first
  | walk_at "hpDMo"
  | fail)
local macro_rules | `(tactic| walk_at "hpD") => `(tactic| with_reducible first
  | walk_at "hpDo"
  | (refine' Dq.same mk_same ?hq; (case hq => walk_at "hpDMo"))
  | fail)
local macro_rules | `(tactic| walk_at "call") => `(tactic| first
  | ((with_reducible refine' sp_draw ?_ ?h ?side1 ?side2); (case h => walk_at "hpB"); intro idraw Hd' hi0 hi1 sd' bd')
  | fail)

local macro_rules | `(tactic| walk_at "call") => `(tactic| first
  | ((with_reducible refine' sp_hand ?_ ?h ?B ?side1); (case h => walk_at "hpM"); (case B => walk_at "hpB"); intro xhd Hhd hnd shd bhd)
  | fail)
section
variable {P : Program} {w : World} {K : Fg} {mg : Str → Option Value} {base : Heap} {f f1 f2 f3 : Addr} {fd : FuncData}
theorem ok_l_handed (F : Fun K "_law_handed" "_law_handed" s_l_handed f fd) (T : Blt mg) (D_l_hand : Df P w K mg base 2 "_law_hand" f1 ["_law_bag_here", "_law_p"] spHand) : FnOk P w K mg base CX0 3 f fd ["_law_bag_here", "_law_spots_here"] spHandedS := by
  obtain ⟨_, G_l_hand, B_l_hand⟩ := D_l_hand.ok
  refine F.ok sc_l_handed (fun vs H Q E h => ?_) (fun cdv A outer s H vs Q E hr h => ?_)
  · obtain ⟨N, b, c, l, xs, cs, rfl, _⟩ := h
    rfl
  · obtain ⟨N, b, c, l, xs, cs, rfl, B, hN, hl, hxs, hok, hlen, k⟩ := h
    refine ⟨_, (pss_one (ps_ret (pe_lc (own := [("_law_spot", 3)]) (g := gName 3) (tt := tYes) rfl sc_l_handed.nd (pi_list (pv 1)) (blkOk_by (N := ["_law_bag_here", "_law_spots_here", "_law_p", "_law_spot"]) (sc := defScope s_l_handed) (by decide +kernel)) (fun _ _ _ _ _ => pg_name (i := 3) sc_l_handed.nd rfl (.inl rfl)) (fun _ _ _ _ _ => pts_nil) (fun _ _ _ _ _ => (pe_callTy (cg_tupOf K) (by rfl) T.n_tuple (by decide +kernel) (pa_cons (pe_lc (own := [("_law_p", 2)]) (g := gName 2) (tt := tYes) rfl sc_l_handed.nd (pi_tupK K (pv 3)) (blkOk_by (N := ["_law_bag_here", "_law_spots_here", "_law_p", "_law_spot"]) (sc := ({ kind := .function, names := [(".0", .local), ("_law_spot", .local), ("tuple", .globalImplicit), ("_law_bag_here", .cell)], isGenerator := false, isCoroutine := false } : Scope)) (by decide +kernel)) (fun _ _ _ _ _ => pg_name (i := 2) sc_l_handed.nd rfl (.inl rfl)) (fun _ _ _ _ _ => pts_nil) (fun _ _ _ _ _ => (pe_call G_l_hand (hr.mono (by decide)) (by rfl) D_l_hand.g D_l_hand.kp B_l_hand .nil pass0 (pa_cons (pv 0) (pa_cons (pv 2) pa_nil))))) pa_nil)))))), ?_⟩
    have hxl := hxs.length
    rw [List.length_map] at hxl
    walk_at "go"
    intro D hD
    have hDb : D ≠ b := (B.free hD).1
    refine lcB (cst := 2) (walk_list (K := K) (a := l) (xs := xs)) hD B (fun H' k y => ∃ d c, cs[k]? = some c ∧ Dq (delH (delH H' b) D) y d ∧ HndS d c ∧ d.noL = true) (by omega) (fun M H2 s2 B2 => SqL.of (mk_same _ _ (s2 _ _ hl))) (fun H2 H3 k y bt z => ?_) (fun i x H2 H2' hi s2 B2 hD2 y' Kt kt => ?_) (fun H2 ys s2 B2 hY hyl hys => ?_) gm_name
    · obtain ⟨d, c', e, q, r⟩ := z
      exact ⟨d, c', e, q.same (but_same bt), r⟩
    · obtain ⟨rfl, hx⟩ := y'
      obtain ⟨dd, hdd, qd⟩ := hxs.at hx
      rw [List.getElem?_map] at hdd
      obtain ⟨c0, hc0, rfl⟩ := Option.map_eq_some_iff.mp hdd
      obtain ⟨lo1, lo2⟩ := hok c0 (List.mem_of_getElem? hc0)
      have qd := qd.same s2
      unfold spD at qd
      cases qd with
      | @tup a1 vs1 ds1 ha1 hd1 =>
      cases hd1 with
      | @cons v1 _ _ _ p1 r1 =>
      cases r1 with
      | @cons v2 _ _ _ p2 r2 =>
      cases r2
      have hn : ∀ (j : Nat) v, [v1, v2][j]? = some v → ∃ t q, v = .ref t ∧ (spL c0)[j]? = some q ∧ delH H2' b t = some (.tup [.int q.1, .int q.2]) ∧ Lo q := fun j v e => by
        match j, e with
        | 0, e =>
          cases e
          obtain ⟨t, e, h⟩ := dq_pq p1
          exact ⟨t, _, e, rfl, h, lo1⟩
        | 1, e =>
          cases e
          obtain ⟨t, e, h⟩ := dq_pq p2
          exact ⟨t, _, e, rfl, h, lo2⟩
        | j + 2, e => simp at e
      refine g_wipe rfl ?_
      walk_at "go"
      intro D2 hN2
      have hD2b : D2 ≠ b := (B2.free hN2).1
      refine lcB (cst := 1) (walk_tup (K := K) (a := a1) (xs := [v1, v2])) hN2 B2 (fun H' k y => ∃ q, (spL c0)[k]? = some q ∧ Lo q ∧ Nm (delH (delH H' b) D2) y q) (Nat.le_of_ble_eq_true rfl) (fun M H3 s3 B3 => SqT.of (mk_same _ _ (s3 _ _ ha1))) (fun H3 H4 k y bt z => ?_) (fun j x H3 H3' hj s3 B3 hD3 y' Kt2 kt2 => ?_) (fun H3 zs s3 B3 hZ hzl hzs => ?_) gm_name
      · obtain ⟨q, e, lq, nq⟩ := z
        exact ⟨q, e, lq, nq.same (but_same bt)⟩
      · obtain ⟨rfl, hx2⟩ := y'
        obtain ⟨t, q, rfl, hq, ht, lq⟩ := hn j _ hx2
        have ht := s3 _ _ ht
        have hj3 : j < 2 := hj
        refine g_wipe rfl ?_
        walk_at "go"
        all_goals first
          | omega
          | skip
        rename_i x H4 nx s4 b4
        obtain ⟨acc, hA⟩ := hD3
        have hA4 := s4 _ _ (mk_at hA hD2b)
        exact kt2 _ _ s4 (b4.le (by omega)) ⟨q, hq, lq, nm_del nx hA4⟩
      · walk_at "go"
        refine g_tupA (.inl hZ) fun tt H4 s4 _ htt => ?_
        have hl3 : zs.length = 2 := hzl
        match zs, hl3, hzs with
        | [z1, z2], _, hzs =>
          obtain ⟨q1, e1, l1, n1⟩ := hzs 0 z1 rfl
          obtain ⟨q2, e2, l2, n2⟩ := hzs 1 z2 rfl
          cases e1
          cases e2
          have up : ∀ {v : V} {q : Pq}, Nm (delH (delH H3 b) D2) v q → Nm H4 v q := fun h => ((h.same mk_same).same mk_same).same s4
          obtain ⟨d1, g1, m1⟩ := nm_dq (up n1) l1
          obtain ⟨d2, g2, m2⟩ := nm_dq (up n2) l2
          have B4 := B3.same s4
          have hno : Dt.noL (.tup [d1, d2]) = true := by
            rw [Dt.noL, Dt.noLs, Dt.noLs, Dt.noLs, m1.2.2, m2.2.2]
            rfl
          have hq : Dq H4 (.ref tt) (.tup [d1, d2]) := .tup htt (.cons g1 (.cons g2 .nil))
          obtain ⟨acc, hA⟩ := hD2
          have hA4 : delH H4 b D = some (.lst acc) := (s3.trans (mk_mono s4)) _ _ (mk_at hA hDb)
          have hbL : ∃ bl, H4 b = some (.lst bl) := by
            obtain ⟨_, _, _, _, _, _, z, _⟩ := B4
            exact ⟨_, z⟩
          obtain ⟨bl, hbL⟩ := hbL
          exact kt _ _ (s3.trans (mk_mono s4)) (B4.le (by show _ ≤ N - i * 2 - 2 * 1; omega)) ⟨.tup [d1, d2], c0, hc0, (hq.dels hno hbL).dels hno hA4, ⟨d1, d2, rfl, m1, m2⟩, hno⟩
    · have mk : ∀ {zs : List V} {cs : List Sp2}, zs.length = cs.length → (∀ (i : Nat) v, zs[i]? = some v → ∃ d c, cs[i]? = some c ∧ Dq (delH (delH H2 b) D) v d ∧ HndS d c ∧ d.noL = true) → ∃ hds, DqAll (delH (delH H2 b) D) zs hds ∧ Paired HndS hds cs ∧ Dt.noLs hds = true := by
        intro zs
        induction zs with
        | nil =>
          intro cs hl h
          cases cs with
          | nil => exact ⟨[], .nil, .nil, rfl⟩
          | cons c cs => simp at hl
        | cons v zs ih =>
          intro cs hl h
          cases cs with
          | nil => simp at hl
          | cons c cs =>
            obtain ⟨d, c', e, q, r, n⟩ := h 0 v rfl
            cases e
            obtain ⟨hds, q1, q2, q3⟩ := ih (cs := cs) (by simpa using hl) fun i v e => h (i + 1) v e
            exact ⟨d :: hds, .cons q q1, .cons r q2, by rw [Dt.noLs, n, q3]; rfl⟩
      obtain ⟨hds, q1, q2, q3⟩ := mk (zs := ys) (cs := cs) (by omega) hys
      exact k D H2 ys hds s2 (B2.le (by omega)) (mk_none hD) hDb hY (q1.same mk_same) q2 q3
end
end Ko


namespace Ko
open PySem L2 PySem.Spec PyProof.Rows Xm
def spLLoft : Sp := fun vs H Q _ => ∃ (l1 l2 tl th : Addr) (xs ys : List V) (ss ts : List Sp2) (p q : Pq), vs = [.ref l1, .ref tl, .ref l2, .ref th] ∧ H l1 = some (.lst xs) ∧ H l2 = some (.lst ys) ∧ DqAll H xs (ss.map spD) ∧ DqAll H ys (ts.map spD) ∧
  H tl = some (.tup [.int p.1, .int p.2]) ∧ H th = some (.tup [.int q.1, .int q.2]) ∧ 3 ≤ ss.length ∧ ss.length ≤ 100 ∧ ts.length ≤ 100 ∧
  ∀ r H', Same H H' → Dq H' (.ref r) (.lst [.lst ((loftC ss p ts q).map cnD), .lst ((loftF ss.length).map fcD)]) → Q (.ref r) H'
def spLVol : Sp := fun vs H Q _ => ∃ (r : Addr) (cs : List Cn) (fs : List Fc) (zs : List Z3), vs = [.ref r] ∧ Dq H (.ref r) (.lst [.lst (cs.map cnD), .lst (fs.map fcD)]) ∧ Paired CnR cs zs ∧ (∀ f ∈ fs, FcOk cs.length f) ∧ fs.length ≤ 1000 ∧ ∀ x H', Same H H' → Nr H' x (D3 * 6) BV (vol6 zs fs) → Q x H'
abbrev Z2 := Int × Int
def SpR (s : Sp2) (z : Z2) : Prop := (Is 27720 z.1 s.1 ∧ z.1.natAbs ≤ BB) ∧ (Is 27720 z.2 s.2 ∧ z.2.natAbs ≤ BB)
def z2at (zs : List Z2) (i : Nat) : Z2 := zs.getD i (0, 0)
def crossAt (zs : List Z2) (k : Nat) : Int := (z2at zs (if k = 0 then zs.length - 1 else k - 1)).1 * (z2at zs k).2 - (z2at zs k).1 * (z2at zs (if k = 0 then zs.length - 1 else k - 1)).2
def area2 (zs : List Z2) (n : Nat) : Int := ((List.range n).map (crossAt zs)).sum
abbrev BA : Nat := 2000000000000000000
def spArea : Sp := fun vs H Q _ => ∃ (l : Addr) (xs : List V) (ss : List Sp2) (zs : List Z2), vs = [.ref l] ∧ H l = some (.lst xs) ∧ DqAll H xs (ss.map spD) ∧ Paired SpR ss zs ∧ 0 < ss.length ∧ ss.length ≤ 100 ∧ ∀ x H', Same H H' → Nr H' x (27720 * 27720 * 2) BA (area2 zs ss.length) → Q x H'
theorem spot_dq {H : Hp} {v : V} {s : Sp2} (h : Dq H v (spD s)) : ∃ t u w, v = .ref t ∧ H t = some (.tup [u, w]) ∧ Pr H u s.1 ∧ Pr H w s.2 := by
  unfold spD at h
  cases h with
  | tup h r =>
    cases r with
    | cons h1 r =>
    cases r with
    | cons h2 r =>
    cases r
    exact ⟨_, _, _, rfl, h, dq_pq h1, dq_pq h2⟩
theorem atI_last {α : Type} {l : List α} {x : α} (h : l[l.length - 1]? = some x) (h0 : 0 < l.length) : atI l (-1) = some x := by
  unfold atI ixN
  rw [if_neg (by omega)]
  simp
  split
  · rename_i h1
    have e : (-1 + (l.length : Int)).toNat = l.length - 1 := by omega
    first
      | (rw [e]; exact h)
      | (simp only [Option.bind_some]; rw [e]; exact h)
      | (simp; rw [e]; exact h)
  · omega
theorem cross_bd {a b c d : Int} (ha : a.natAbs ≤ BB) (hb : b.natAbs ≤ BB) (hc : c.natAbs ≤ BB) (hd : d.natAbs ≤ BB) : (a * b - c * d).natAbs ≤ 20000000000000000 := by
  have h1 : (a * b).natAbs ≤ BB * BB := by
    rw [Int.natAbs_mul]
    exact Nat.mul_le_mul ha hb
  have h2 : (c * d).natAbs ≤ BB * BB := by
    rw [Int.natAbs_mul]
    exact Nat.mul_le_mul hc hd
  have h3 : BB * BB = 10000000000000000 := by decide
  omega
theorem area2_succ (zs : List Z2) (n : Nat) : area2 zs (n + 1) = area2 zs n + crossAt zs n := by
  unfold area2
  rw [List.range_succ, List.map_append, List.sum_append]
  simp
theorem dets_take (zs : List Z3) (fs : List Fc) (i : Nat) {f : Fc} (h : fs[i]? = some f) : vol6 zs (fs.take (i + 1)) = vol6 zs (fs.take i) + det3 (zat zs f.1) (zat zs f.2.1) (zat zs f.2.2) := by
  unfold vol6 dets
  rw [List.take_add_one, h, List.map_append, List.sum_append]
  simp
theorem z2_of {zs : List Z2} {k : Nat} {z : Z2} (h : zs[k]? = some z) : z2at zs k = z := by
  unfold z2at
  rw [List.getD_eq_getElem?_getD, h]
  rfl

local macro_rules | `(tactic| walk_at "hpS") => `(tactic| with_reducible first
  | exact Same.refl _
  | assumption
  | (refine' Same.trans ?hq (same_new (by assumption)); (case hq => walk_at "hpS"))
  | (refine' Same.trans ?hq (by assumption); (case hq => walk_at "hpS"))
  | fail)
local macro_rules | `(tactic| walk_at "hpH") => `(tactic| with_reducible first
  | assumption
  | exact upd_same
  | (refine' same_at (same_new (by assumption)) ?hq; (case hq => walk_at "hpH"))
  | (refine' same_at (by assumption) ?hq; (case hq => walk_at "hpH"))
  | fail)
local macro_rules | `(tactic| walk_at "hpTo") => `(tactic| with_reducible first
  | assumption
  | (refine' sq_t (same_new (by assumption)) ?hq; (case hq => walk_at "hpTo"))
  | (refine' sq_t (by assumption) ?hq; (case hq => walk_at "hpTo"))
  | fail)
local macro_rules | `(tactic| walk_at "hpT") => `(tactic| with_reducible first
  | (refine' SqT.of ?hq; (case hq => walk_at "hpH"))
  | walk_at "hpTo"
  | fail)
local macro_rules | `(tactic| walk_at "hpLo") => `(tactic| with_reducible first
  | assumption
  | (refine' sq_l (same_new (by assumption)) ?hq; (case hq => walk_at "hpLo"))
  | (refine' sq_l (by assumption) ?hq; (case hq => walk_at "hpLo"))
  | fail)
local macro_rules | `(tactic| walk_at "hpL") => `(tactic| with_reducible first
  | (refine' SqL.of ?hq; (case hq => walk_at "hpH"))
  | walk_at "hpLo"
  | fail)
local macro_rules | `(tactic| walk_at "kit") => `(tactic| with_reducible first
  | exact kit_int_bool | exact kit_int_int | exact kit_int_tuple | exact kit_int_list | exact kit_int_str
  | exact kit_tuple_tuple | exact kit_tuple_int | exact kit_tuple_bool | exact kit_tuple_list | exact kit_tuple_str
  | exact kit_bool_bool | exact kit_bool_int | exact kit_bool_tuple | exact kit_bool_list | exact kit_bool_str
  | exact kit_str_str | exact kit_str_int | exact kit_str_bool | exact kit_str_tuple | exact kit_str_list
  | exact kit_NoneType_int | exact kit_NoneType_bool | exact kit_NoneType_tuple | exact kit_NoneType_list | exact kit_NoneType_str
  | exact kit_list_list | exact kit_list_tuple | exact kit_list_int | exact kit_list_bool | exact kit_list_str
  | fail)
local macro_rules | `(tactic| walk_at "call") => `(tactic| fail)
local macro_rules | `(tactic| walk_at "s0") => `(tactic| with_reducible first
  | refine g_seq ?_ | refine g_asg ?_ | refine g_name ?_ | refine g_ifS ?_ | refine g_ret ?_ | refine g_retN ?_ | refine g_next ?_
  | refine g_par ?_ | refine g_parE ?_ | refine g_drop ?_
  | refine g_c ?_ | refine g_op ?_ | refine g_un ?_ | refine g_cb ?_ | refine g_call ?_ | refine g_nil ?_ | refine g_cons ?_ | refine g_tup ?_ | refine g_lst ?_
  | refine g_test ?_ | refine g_B ?_ | refine g_blF ?_ | refine g_and ?_ | refine g_or ?_ | refine g_not ?_ | refine g_andV ?_ | refine g_orV ?_ | refine g_notV ?_ | refine g_if ?_
  | refine iteT ?_ | refine iteF ?_
  | refine g_chain ?_ | refine g_sl ?_ | refine g_noPart ?_ | refine g_part ?_ | refine g_partI ?_ | refine g_slS ?_ ?side | refine g_M1 ?_ | refine g_M1s ?_ | refine g_starts ?_ | refine g_bm ?_ | refine g_bm0 ?_ | refine g_tyS ?_
  | refine g_Fs ?_ | refine g_JsN ?_ | refine g_JsC ?_ | refine g_JsE ?_ ?side | refine g_fmt ?_ | refine g_fmtI ?_ ?side | refine g_fmtS ?_ ?side | refine g_iList ?_ | refine g_iTup ?_ | refine g_iStr ?_ | refine g_iStrE ?_ | refine g_iRng1 ?_ | refine g_iRng1E ?_ ?side1 ?side2 | refine g_yes ?_ | refine g_ckw ?_ | refine g_dget ?_ | refine g_dictZip ?_ | refine g_gCons ?_ | refine g_gNil ?_ | refine g_revL ?_ | refine g_for ?_ | refine g_lc ?_ | refine g_addS ?_ ?side | refine g_str ?_ ?side | refine g_lenS ?_ ?side
  | refine g_rI0 ?_ | refine g_rI ?_ ?side | refine g_rU ?_ | refine g_abs ?_ | refine g_int ?_ | refine g_intB ?_ | refine g_gcd ?_ | refine g_inS ?_ | refine g_isN0 ?_ | refine g_notN0 ?_
  | fail)
local macro_rules | `(tactic| walk_at "s1") => `(tactic| first
  | ((with_reducible refine' g_var ?h ?_); (case h => exact rfl))
  | ((with_reducible refine' g_new ?h ?_); (case h => exact (by simp only [List.length_cons, List.length_nil]; decide)); intro tnew htnew)
  | ((with_reducible refine' iteDT ?h ?_); (case h => first | exact rfl | assumption))
  | ((with_reducible refine' iteNT ?h ?_); (case h => first | exact rfl | assumption))
  | ((with_reducible refine' iteDF ?h ?_); (case h => first | assumption | (intro z; cases z)))
  | ((with_reducible refine' iteNF ?h ?_); (case h => first | assumption | (intro z; cases z)))
  | ((with_reducible refine' g_eq ?_ ?h); (case h => exact rfl))
  | ((with_reducible refine' g_ne ?_ ?h); (case h => exact rfl))
  | ((with_reducible refine' g_ixT ?_ ?h ?e); (case h => walk_at "hpT"); (case e => first | exact rfl | exact atI_0 | exact atI_1))
  | ((with_reducible refine' g_ixL ?_ ?h ?e); (case h => walk_at "hpL"); (case e => first | exact rfl | exact atI_0 | exact atI_1))
  | ((with_reducible refine' g_isi_int ?_ ?h); (case h => walk_at "kit"))
  | ((with_reducible refine' g_isi_str ?_ ?h); (case h => walk_at "kit"))
  | ((with_reducible refine' g_isi_bl ?_ ?h); (case h => walk_at "kit"))
  | ((with_reducible refine' g_isi_non ?_ ?h); (case h => walk_at "kit"))
  | ((with_reducible refine' g_isi_t ?_ ?t ?h); (case t => walk_at "hpT"); (case h => walk_at "kit"))
  | ((with_reducible refine' g_isi_l ?_ ?t ?h ?l); (case l => walk_at "hpH"); (case t => walk_at "hpL"); (case h => walk_at "kit"))
  | ((with_reducible refine' g_lenT ?_ ?h); (case h => walk_at "hpT"))
  | ((with_reducible refine' g_lenL ?_ ?h); (case h => walk_at "hpL"))
  | ((with_reducible refine' g_split ?_ ?h ?side); (case h => exact rfl); intro pnew hpnew)
  | ((with_reducible refine' g_slL ?h ?_); (case h => walk_at "hpL"); intro pnew hpnew)
  | ((with_reducible refine' g_iListE ?_ ?h); (case h => walk_at "hpL"))
  | ((with_reducible refine' g_iTupE ?_ ?h); (case h => walk_at "hpT"))
  | ((with_reducible refine' g_tyL ?_ ?h); (case h => walk_at "hpL"))
  | ((with_reducible refine' g_join ?_ ?h ?side); (case h => walk_at "hpL"))
  | ((with_reducible refine' g_append ?_ ?h ?side); (case h => walk_at "hpH"))
  | ((with_reducible refine' g_all ?_ ?h); (case h => walk_at "hpL"))
  | ((with_reducible refine' g_gTup ?_ ?h ?n); (case h => walk_at "hpT"); (case n => exact rfl))
  | ((with_reducible refine' g_revLE ?h ?_); (case h => walk_at "hpL"); intro pnew hpnew)
  | ((with_reducible refine' g_isN1 ?_ ?h); (case h => first | assumption | (intro z; cases z)))
  | ((with_reducible refine' g_notN1 ?_ ?h); (case h => first | assumption | (intro z; cases z)))
  | walk_at "call"
  | ((with_reducible refine' iteBT ?h ?_); (case h => first | assumption | exact rfl))
  | ((with_reducible refine' iteBF ?h ?_); (case h => first | assumption | exact rfl))
  | fail)
local macro_rules | `(tactic| walk_at "nrm") => `(tactic| simp only [Bool.not_true, Bool.not_false, decide_eq_true_eq, decide_true, decide_false, Bool.true_and, Bool.false_and, Bool.and_true, Bool.and_false, V.int.injEq, V.bl.injEq, V.str.injEq, List.length_cons, List.length_nil, Bool.not_eq_true', decide_eq_false_iff_not, Int.not_lt, Int.not_le, reduceCtorEq, not_false_eq_true, not_true_eq_false, Decidable.not_not] at *)
local macro_rules | `(tactic| walk_at "sp") => `(tactic| ((with_reducible refine ite2 (fun c => ?_) (fun c => ?_)) <;> (try simp only [decide_eq_true_eq, Bool.not_eq_true', decide_eq_false_iff_not, V.int.injEq, V.bl.injEq, V.str.injEq, Int.not_lt, Int.not_le, reduceCtorEq, Decidable.not_not, Bool.false_eq_true, Bool.true_eq_false] at c) <;> (try (exfalso; omega))))
local macro_rules | `(tactic| walk_at "s") => `(tactic| first | walk_at "s0" | walk_at "s1" | fail)
local macro_rules | `(tactic| walk_at "go") => `(tactic| (try dsimp only [cxK, cxK']); repeat' walk_at "s")
local macro_rules | `(tactic| walk_at "gos") => `(tactic| ((try dsimp only [cxK, cxK']); repeat' (first | walk_at "s" | walk_at "sp" | fail)))

local macro_rules | `(tactic| walk_at "hpNo") => `(tactic| with_reducible first
  | assumption
  | (refine' Nm.ofPr ?hq; (case hq => assumption))
  | (refine' Nm.same (same_new (by assumption)) ?hq; (case hq => walk_at "hpNo"))
  | (refine' Nm.same (by assumption) ?hq; (case hq => walk_at "hpNo"))
  | fail)
local macro_rules | `(tactic| walk_at "hpN") => `(tactic| with_reducible first
  | walk_at "hpNo"
  | (refine' Nm.of ?hq; (case hq => walk_at "hpH"))
  | fail)
local macro_rules | `(tactic| walk_at "hpPo") => `(tactic| with_reducible first
  | assumption
  | (refine' Pr.same (same_new (by assumption)) ?hq; (case hq => walk_at "hpPo"))
  | (refine' Pr.same (by assumption) ?hq; (case hq => walk_at "hpPo"))
  | fail)
local macro_rules | `(tactic| walk_at "hpP") => `(tactic| with_reducible first
  | walk_at "hpPo"
  | (refine' Pr.of ?hq; (case hq => walk_at "hpH"))
  | fail)
local macro_rules | `(tactic| walk_at "hpDo") => `(tactic| with_reducible first
  | assumption
  | exact Dq.int _ | exact Dq.bl _ | exact Dq.str _ | exact Dq.non
  | (refine' Dq.same (same_new (by assumption)) ?hq; (case hq => walk_at "hpDo"))
  | (refine' Dq.same (by assumption) ?hq; (case hq => walk_at "hpDo"))
  | fail)
local macro_rules | `(tactic| walk_at "hpD") => `(tactic| with_reducible first
  | walk_at "hpDo"
  | fail)

local macro_rules | `(tactic| walk_at "hpR") => `(tactic| with_reducible first
  | assumption
  | (refine' Nr.same (same_new (by assumption)) ?hq; (case hq => walk_at "hpR"))
  | (refine' Nr.same (by assumption) ?hq; (case hq => walk_at "hpR"))
  | fail)
local macro_rules | `(tactic| walk_at "call") => `(tactic| first
  | ((with_reducible refine' sp_lmul ?_ ?h1 ?h2 ?side1 ?side2); (case h1 => walk_at "hpR"); (case h2 => walk_at "hpR"); intro tp Hp' sp' hp')
  | ((with_reducible refine' sp_lsub ?_ ?h1 ?h2 ?side1); (case h1 => walk_at "hpR"); (case h2 => walk_at "hpR"); intro tp Hp' sp' hp')
  | ((with_reducible refine' sp_ladd ?_ ?h1 ?h2 ?side1); (case h1 => walk_at "hpR"); (case h2 => walk_at "hpR"); intro tp Hp' sp' hp')
  | (with_reducible refine g_iRng2 ?_) | (with_reducible refine g_iRng2E ?_ ?side)
  | fail)
section
variable {P : Program} {w : World} {K : Fg} {mg : Str → Option Value} {base : Heap} {f f1 f2 f3 f4 : Addr} {fd : FuncData}
theorem ok_l_area (F : Fun K "_law_area" "_law_area" s_l_area f fd) (T : Blt mg) (D_l_add : Df P w K mg base 2 "_law_add" f1 ["_law_p", "_law_q"] (spLop add)) (D_l_sub : Df P w K mg base 3 "_law_sub" f2 ["_law_p", "_law_q"] (spLop sub)) (D_l_mul : Df P w K mg base 2 "_law_mul" f3 ["_law_p", "_law_q"] (spLop mul)) : FnOk P w K mg base CX0 4 f fd ["_law_ring_here"] spArea := by
  obtain ⟨_, G_l_add, B_l_add⟩ := D_l_add.ok
  obtain ⟨_, G_l_sub, B_l_sub⟩ := D_l_sub.ok
  obtain ⟨_, G_l_mul, B_l_mul⟩ := D_l_mul.ok
  refine F.ok sc_l_area (fun vs H Q E h => ?_) (fun cdv A outer s H vs Q E hr h => ?_)
  · obtain ⟨l, xs, ss, zs, rfl, _⟩ := h
    rfl
  · obtain ⟨l, xs, ss, zs, rfl, hl, hq, hz, h0, h100, k⟩ := h
    have lx := hq.length
    rw [List.length_map] at lx
    have lz := hz.length
    refine ⟨_, (pss_cons (ps_set (i := 1) sc_l_area.nd rfl (.inl rfl) (pe_tup (pa_cons pe_int (pa_cons pe_int pa_nil))))
      (pss_cons (ps_for PassesOwn.never rfl (pi_range1 (by rfl) T.n_range (pa_cons (pe_callB (cg_lenK K) (by rfl) T.n_len (by decide +kernel) (pa_cons (pv 0) pa_nil)) pa_nil)) (pg_name (i := 2) sc_l_area.nd rfl (.inl rfl))
      (pss_cons (ps_par (i := 3) (j := 4) rfl sc_l_area.nd rfl rfl (by decide) rfl rfl (pa_cons (pe_ix (ix_seqK K) (pv 0) (pe_op op_sub (pv 2) pe_int) (fun _ _ => rfl)) (pa_cons (pe_ix (ix_seqK K) (pv 0) (pv 2) (fun _ _ => rfl)) pa_nil)) rfl)
      (pss_one (ps_set (i := 1) sc_l_area.nd rfl (.inl rfl) (pe_call G_l_add (hr.mono (by decide)) (by rfl) D_l_add.g D_l_add.kp B_l_add .nil pass0 (pa_cons (pv 1) (pa_cons (pe_call G_l_sub (hr.mono (by decide)) (by rfl) D_l_sub.g D_l_sub.kp B_l_sub .nil pass0 (pa_cons (pe_call G_l_mul (hr.mono (by decide)) (by rfl) D_l_mul.g D_l_mul.kp B_l_mul .nil pass0 (pa_cons (pe_ix (ix_seqK K) (pv 3) pe_int (fun _ _ => rfl)) (pa_cons (pe_ix (ix_seqK K) (pv 4) pe_int (fun _ _ => rfl)) pa_nil))) (pa_cons (pe_call G_l_mul (hr.mono (by decide)) (by rfl) D_l_mul.g D_l_mul.kp B_l_mul .nil pass0 (pa_cons (pe_ix (ix_seqK K) (pv 4) pe_int (fun _ _ => rfl)) (pa_cons (pe_ix (ix_seqK K) (pv 3) pe_int (fun _ _ => rfl)) pa_nil))) pa_nil))) pa_nil)))))))
      (pss_one (ps_ret (pe_call G_l_mul (hr.mono (by decide)) (by rfl) D_l_mul.g D_l_mul.kp B_l_mul .nil pass0 (pa_cons (pv 1) (pa_cons (pe_tup (pa_cons pe_int (pa_cons pe_int pa_nil))) pa_nil))))))), ?_⟩
    walk_at "go"
    any_goals omega
    rename_i t0 nt0
    have s0 := same_new (o := .tup [.int 0, .int 1]) nt0
    have z0 : Nr (upd H t0 (.tup [.int 0, .int 1])) (.ref t0) (27720 * 27720) 0 0 := nr_zero upd_same
    generalize upd H t0 (.tup [.int 0, .int 1]) = H1 at s0 z0
    refine for_range (lo := 0) (n := xs.length) (fun i σ H' => ∃ (t : Addr) (v2 v3 v4 : Option V), σ = [some (.ref l), some (.ref t), v2, v3, v4] ∧ Same H H' ∧ Nr H' (.ref t) (27720 * 27720) (i * 20000000000000000) (area2 zs i)) ⟨t0, none, none, none, rfl, s0, z0⟩ (fun i σ H' hi h => ?_) (fun σ H' h => ?_)
    · obtain ⟨t, v2, v3, v4, rfl, s1, hA⟩ := h
      have hl1 := s1 _ _ hl
      have hq1 := hq.same s1
      obtain ⟨y, hy⟩ : ∃ y, xs[i]? = some y := ⟨_, List.getElem?_eq_getElem hi⟩
      obtain ⟨x, hx⟩ : ∃ x, xs[if i = 0 then xs.length - 1 else i - 1]? = some x := ⟨_, List.getElem?_eq_getElem (by split <;> omega)⟩
      obtain ⟨dy, ey, qy⟩ := hq1.at hy
      obtain ⟨dx, ex, qx⟩ := hq1.at hx
      rw [List.getElem?_map] at ey ex
      obtain ⟨sy, fy, rfl⟩ := Option.map_eq_some_iff.mp ey
      obtain ⟨sx, fx, rfl⟩ := Option.map_eq_some_iff.mp ex
      obtain ⟨zy, gy, my⟩ := paired_get hz fy
      obtain ⟨zx, gx, mx⟩ := paired_get hz fx
      obtain ⟨ty, u1, u2, rfl, hty, pu1, pu2⟩ := spot_dq qy
      obtain ⟨tx, w1, w2, rfl, htx, pw1, pw2⟩ := spot_dq qx
      have nu1 : Nr H' u1 27720 BB zy.1 := ⟨_, pu1, my.1.1, my.1.2⟩
      have nu2 : Nr H' u2 27720 BB zy.2 := ⟨_, pu2, my.2.1, my.2.2⟩
      have nw1 : Nr H' w1 27720 BB zx.1 := ⟨_, pw1, mx.1.1, mx.1.2⟩
      have nw2 : Nr H' w2 27720 BB zx.2 := ⟨_, pw2, mx.2.1, mx.2.2⟩
      have ax : atI xs (0 + (i : Int) - 1) = some (.ref tx) := by
        by_cases c : i = 0
        · subst c
          rw [if_pos rfl] at hx
          exact atI_last hx (by omega)
        · rw [if_neg c] at hx
          rw [show 0 + (i : Int) - 1 = ((i - 1 : Nat) : Int) by omega]
          exact atI_nat hx
      have hb9 : i * 20000000000000000 < tenP := Nat.lt_of_le_of_lt (Nat.mul_le_mul_right _ (show i ≤ 100 by omega)) (by decide +kernel)
      have ay : atI xs (0 + (i : Int)) = some (.ref ty) := by
        rw [show 0 + (i : Int) = ((i : Nat) : Int) by omega]
        exact atI_nat hy
      walk_at "go"
      refine g_ixL ?_ (SqL.of hl1) ax
      walk_at "go"
      refine g_ixL ?_ (SqL.of hl1) ay
      walk_at "go"
      any_goals first
        | exact ⟨by decide +kernel, by decide +kernel, by decide +kernel, by decide +kernel⟩
        | exact ⟨by decide +kernel, by decide +kernel, hb9, by decide +kernel⟩
        | skip
      rename_i hz2
      refine ⟨_, _, _, _, rfl, by walk_at "hpS", ?_⟩
      have eN : area2 zs i + (zx.1 * zy.2 - zy.1 * zx.2) = area2 zs (i + 1) := by
        rw [area2_succ]
        unfold crossAt
        rw [show zs.length = xs.length by omega, z2_of gy, z2_of gx]
      refine (hz2.eq eN).re ?_
      have := hA.bd
      have := cross_bd mx.1.2 my.2.2 my.1.2 mx.2.2
      rw [← eN]
      omega
    · obtain ⟨t, v2, v3, v4, rfl, s1, hA⟩ := h
      walk_at "go"
      rename_i th nth
      have hh : Nr (upd H' th (.tup [.int 1, .int 2])) (.ref th) 2 1 1 := ⟨(1, 2), ⟨th, rfl, upd_same⟩, ⟨⟨by show (0 : Int) < 2; decide, by decide⟩, by decide⟩, Nat.le_refl _⟩
      have hb : xs.length * 20000000000000000 ≤ BA := by
        have : xs.length * 20000000000000000 ≤ 100 * 20000000000000000 := Nat.mul_le_mul_right _ (by omega)
        have e : 100 * 20000000000000000 = BA := by decide
        omega
      refine sp_lmul (E := E0) (fun t' H7 s7 h7 => ?_) ((hA.mono hb).same (same_new nth)) hh ⟨by decide +kernel, by decide +kernel, by decide +kernel, by decide +kernel⟩ ⟨by decide +kernel, by decide +kernel, by decide +kernel, by decide +kernel⟩
      refine k _ _ ((s1.trans (same_new nth)).trans s7) ((h7.mono (by decide)).eq ?_)
      rw [Int.mul_one, lx]
theorem ok_l_volume (F : Fun K "_law_volume" "_law_volume" s_l_volume f fd) (T : Blt mg) (D_l_add : Df P w K mg base 2 "_law_add" f1 ["_law_p", "_law_q"] (spLop add)) (D_l_mul : Df P w K mg base 2 "_law_mul" f3 ["_law_p", "_law_q"] (spLop mul)) (D_l_det : Df P w K mg base 4 "_law_det" f2 ["_law_a", "_law_b", "_law_third"] spDet) : FnOk P w K mg base CX0 5 f fd ["_law_pair"] spLVol := by
  obtain ⟨_, G_l_add, B_l_add⟩ := D_l_add.ok
  obtain ⟨_, G_l_mul, B_l_mul⟩ := D_l_mul.ok
  obtain ⟨_, G_l_det, B_l_det⟩ := D_l_det.ok
  refine F.ok sc_l_volume (fun vs H Q E h => ?_) (fun cdv A outer s H vs Q E hr h => ?_)
  · obtain ⟨r, cs, fs, zs, rfl, _⟩ := h
    rfl
  · obtain ⟨r, cs, fs, zs, rfl, hd, hz, hf, hlen, k⟩ := h
    obtain ⟨rs, hr0, hrs⟩ := dq_lst hd
    cases hrs with
    | cons q1 hrs =>
    cases hrs with
    | cons q2 hrs =>
    cases hrs
    cases q1 with
    | @lst cl xs _ hcl hxs =>
    cases q2 with
    | @lst fl ys _ hfl hys =>
    have ly := hys.length
    rw [List.length_map] at ly
    refine ⟨_, (pss_cons (ps_set (i := 1) sc_l_volume.nd rfl (.inl rfl) (pe_tup (pa_cons pe_int (pa_cons pe_int pa_nil))))
      (pss_cons (ps_for PassesOwn.never rfl (pi_list (pe_ix (ix_seqK K) (pv 0) pe_int (fun _ _ => rfl))) (pg_name (i := 2) sc_l_volume.nd rfl (.inl rfl))
      (pss_one (ps_set (i := 1) sc_l_volume.nd rfl (.inl rfl) (pe_call G_l_add (hr.mono (by decide)) (by rfl) D_l_add.g D_l_add.kp B_l_add .nil pass0 (pa_cons (pv 1) (pa_cons (pe_call G_l_det (hr.mono (by decide)) (by rfl) D_l_det.g D_l_det.kp B_l_det .nil pass0 (pa_cons (pe_ix (ix_seqK K) (pe_ix (ix_seqK K) (pv 0) pe_int (fun _ _ => rfl)) (pe_ix (ix_seqK K) (pv 2) pe_int (fun _ _ => rfl)) (fun _ _ => rfl)) (pa_cons (pe_ix (ix_seqK K) (pe_ix (ix_seqK K) (pv 0) pe_int (fun _ _ => rfl)) (pe_ix (ix_seqK K) (pv 2) pe_int (fun _ _ => rfl)) (fun _ _ => rfl)) (pa_cons (pe_ix (ix_seqK K) (pe_ix (ix_seqK K) (pv 0) pe_int (fun _ _ => rfl)) (pe_ix (ix_seqK K) (pv 2) pe_int (fun _ _ => rfl)) (fun _ _ => rfl)) pa_nil)))) pa_nil))))))
      (pss_one (ps_ret (pe_call G_l_mul (hr.mono (by decide)) (by rfl) D_l_mul.g D_l_mul.kp B_l_mul .nil pass0 (pa_cons (pv 1) (pa_cons (pe_tup (pa_cons pe_int (pa_cons pe_int pa_nil))) pa_nil))))))), ?_⟩
    walk_at "go"
    rename_i t0 nt0
    have s0 := same_new (o := .tup [.int 0, .int 1]) nt0
    have z0 : Nr (upd H t0 (.tup [.int 0, .int 1])) (.ref t0) D3 0 0 := nr_zero upd_same
    generalize upd H t0 (.tup [.int 0, .int 1]) = H1 at s0 z0
    refine for_list (K := K) (a := fl) (xs := ys) (fun i σ H' => ∃ (t : Addr) (v2 : Option V), σ = [some (.ref r), some (.ref t), v2] ∧ Same H H' ∧ Nr H' (.ref t) D3 (i * B3) (vol6 zs (fs.take i))) ⟨t0, none, rfl, s0, z0⟩ (fun i σ H' _ h => ?_) (fun i x σ H' hx h => ?_) (fun σ H' h => ?_)
    · obtain ⟨_, _, _, s1, _⟩ := h
      exact SqL.of (s1 _ _ hfl)
    · obtain ⟨t, v2, rfl, s1, hA⟩ := h
      have hi : i < ys.length := (List.getElem?_eq_some_iff.mp hx).1
      obtain ⟨dd, hdd, qd⟩ := hys.at hx
      rw [List.getElem?_map] at hdd
      obtain ⟨fc, hfc, rfl⟩ := Option.map_eq_some_iff.mp hdd
      obtain ⟨tf, rfl, htf⟩ := fc_tup qd
      obtain ⟨b0, b1, b2, b3, b4, b5⟩ := hf fc (List.mem_of_getElem? hfc)
      have htf := s1 _ _ htf
      have hr1 := s1 _ _ hr0
      have hcl1 := s1 _ _ hcl
      obtain ⟨x1, e1, c1⟩ := co_at (hxs.same s1) hz b0 b1
      obtain ⟨x2, e2, c2⟩ := co_at (hxs.same s1) hz b2 b3
      obtain ⟨x3, e3, c3⟩ := co_at (hxs.same s1) hz b4 b5
      walk_at "go"
      refine g_ixL ?_ (SqL.of hcl1) e1
      walk_at "go"
      refine g_ixL ?_ (SqL.of hcl1) e2
      walk_at "go"
      refine g_ixL ?_ (SqL.of hcl1) e3
      refine ⟨_, _, _, _, _, _, rfl, c1, c2, c3, fun t2 H6 s6 h6 => ?_⟩
      have hb3 : i * B3 < tenP := Nat.lt_of_le_of_lt (Nat.mul_le_mul_right B3 (show i ≤ 1000 by omega)) (by decide +kernel)
      refine sp_ladd (E := E0) (fun t3 H7 s7 h7 => ?_) (hA.same s6) h6 ⟨by decide +kernel, by decide +kernel, hb3, by decide +kernel⟩
      exact ⟨_, _, rfl, (s1.trans s6).trans s7, (h7.mono (by rw [Nat.succ_mul]; exact Nat.le_refl _)).eq (dets_take zs fs i hfc).symm⟩
    · obtain ⟨t, v2, rfl, s1, hA⟩ := h
      rw [ly, List.take_length] at hA
      walk_at "go"
      rename_i th nth
      have hh : Nr (upd H' th (.tup [.int 1, .int 6])) (.ref th) 6 1 1 := ⟨(1, 6), ⟨th, rfl, upd_same⟩, ⟨⟨by show (0 : Int) < 6; decide, by decide⟩, by decide⟩, Nat.le_refl _⟩
      have hb : fs.length * B3 ≤ BV := by
        have h2 : fs.length * B3 ≤ 1000 * B3 := Nat.mul_le_mul_right _ hlen
        have h3 : 1000 * B3 ≤ BV := by decide
        exact Nat.le_trans h2 h3
      refine sp_lmul (E := E0) (fun t' H7 s7 h7 => ?_) ((hA.mono hb).same (same_new nth)) hh ⟨by decide +kernel, by decide +kernel, by decide +kernel, by decide +kernel⟩ ⟨by decide +kernel, by decide +kernel, by decide +kernel, by decide +kernel⟩
      exact k _ _ ((s1.trans (same_new nth)).trans s7) ((h7.mono (by decide)).eq (Int.mul_one _))
end
end Ko


namespace Ko
open PySem L2 PySem.Spec PyProof.Rows Xm
theorem lows_succ (n : Nat) : (List.range (n + 1)).map lowF = (List.range n).map lowF ++ [lowF n] := by rw [List.range_succ, List.map_append]; rfl
theorem tops_succ (m : Int) (n : Nat) : (List.range (n + 1)).map (topF m) = (List.range n).map (topF m) ++ [topF m n] := by rw [List.range_succ, List.map_append]; rfl

local macro_rules | `(tactic| walk_at "hpS") => `(tactic| with_reducible first
  | exact Same.refl _
  | assumption
  | (refine' Same.trans ?hq (same_new (by assumption)); (case hq => walk_at "hpS"))
  | (refine' Same.trans ?hq (by assumption); (case hq => walk_at "hpS"))
  | fail)
local macro_rules | `(tactic| walk_at "hpH") => `(tactic| with_reducible first
  | assumption
  | exact upd_same
  | (refine' same_at (same_new (by assumption)) ?hq; (case hq => walk_at "hpH"))
  | (refine' same_at (by assumption) ?hq; (case hq => walk_at "hpH"))
  | fail)
local macro_rules | `(tactic| walk_at "hpTo") => `(tactic| with_reducible first
  | assumption
  | (refine' sq_t (same_new (by assumption)) ?hq; (case hq => walk_at "hpTo"))
  | (refine' sq_t (by assumption) ?hq; (case hq => walk_at "hpTo"))
  | fail)
local macro_rules | `(tactic| walk_at "hpT") => `(tactic| with_reducible first
  | (refine' SqT.of ?hq; (case hq => walk_at "hpH"))
  | walk_at "hpTo"
  | fail)
local macro_rules | `(tactic| walk_at "hpLo") => `(tactic| with_reducible first
  | assumption
  | (refine' sq_l (same_new (by assumption)) ?hq; (case hq => walk_at "hpLo"))
  | (refine' sq_l (by assumption) ?hq; (case hq => walk_at "hpLo"))
  | fail)
local macro_rules | `(tactic| walk_at "hpL") => `(tactic| with_reducible first
  | (refine' SqL.of ?hq; (case hq => walk_at "hpH"))
  | walk_at "hpLo"
  | fail)
local macro_rules | `(tactic| walk_at "kit") => `(tactic| with_reducible first
  | exact kit_int_bool | exact kit_int_int | exact kit_int_tuple | exact kit_int_list | exact kit_int_str
  | exact kit_tuple_tuple | exact kit_tuple_int | exact kit_tuple_bool | exact kit_tuple_list | exact kit_tuple_str
  | exact kit_bool_bool | exact kit_bool_int | exact kit_bool_tuple | exact kit_bool_list | exact kit_bool_str
  | exact kit_str_str | exact kit_str_int | exact kit_str_bool | exact kit_str_tuple | exact kit_str_list
  | exact kit_NoneType_int | exact kit_NoneType_bool | exact kit_NoneType_tuple | exact kit_NoneType_list | exact kit_NoneType_str
  | exact kit_list_list | exact kit_list_tuple | exact kit_list_int | exact kit_list_bool | exact kit_list_str
  | fail)
local macro_rules | `(tactic| walk_at "call") => `(tactic| fail)
local macro_rules | `(tactic| walk_at "s0") => `(tactic| with_reducible first
  | refine g_seq ?_ | refine g_asg ?_ | refine g_name ?_ | refine g_ifS ?_ | refine g_ret ?_ | refine g_retN ?_ | refine g_next ?_
  | refine g_par ?_ | refine g_parE ?_ | refine g_drop ?_
  | refine g_c ?_ | refine g_op ?_ | refine g_un ?_ | refine g_cb ?_ | refine g_call ?_ | refine g_nil ?_ | refine g_cons ?_ | refine g_tup ?_ | refine g_lst ?_
  | refine g_test ?_ | refine g_B ?_ | refine g_blF ?_ | refine g_and ?_ | refine g_or ?_ | refine g_not ?_ | refine g_andV ?_ | refine g_orV ?_ | refine g_notV ?_ | refine g_if ?_
  | refine iteT ?_ | refine iteF ?_
  | refine g_chain ?_ | refine g_sl ?_ | refine g_noPart ?_ | refine g_part ?_ | refine g_partI ?_ | refine g_slS ?_ ?side | refine g_M1 ?_ | refine g_M1s ?_ | refine g_starts ?_ | refine g_bm ?_ | refine g_bm0 ?_ | refine g_tyS ?_
  | refine g_Fs ?_ | refine g_JsN ?_ | refine g_JsC ?_ | refine g_JsE ?_ ?side | refine g_fmt ?_ | refine g_fmtI ?_ ?side | refine g_fmtS ?_ ?side | refine g_iList ?_ | refine g_iTup ?_ | refine g_iStr ?_ | refine g_iStrE ?_ | refine g_iRng1 ?_ | refine g_iRng1E ?_ ?side1 ?side2 | refine g_yes ?_ | refine g_ckw ?_ | refine g_dget ?_ | refine g_dictZip ?_ | refine g_gCons ?_ | refine g_gNil ?_ | refine g_revL ?_ | refine g_for ?_ | refine g_lc ?_ | refine g_addS ?_ ?side | refine g_str ?_ ?side | refine g_lenS ?_ ?side
  | refine g_rI0 ?_ | refine g_rI ?_ ?side | refine g_rU ?_ | refine g_abs ?_ | refine g_int ?_ | refine g_intB ?_ | refine g_gcd ?_ | refine g_inS ?_ | refine g_isN0 ?_ | refine g_notN0 ?_
  | fail)
local macro_rules | `(tactic| walk_at "s1") => `(tactic| first
  | ((with_reducible refine' g_var ?h ?_); (case h => exact rfl))
  | ((with_reducible refine' g_new ?h ?_); (case h => exact (by simp only [List.length_cons, List.length_nil]; decide)); intro tnew htnew)
  | ((with_reducible refine' iteDT ?h ?_); (case h => first | exact rfl | assumption))
  | ((with_reducible refine' iteNT ?h ?_); (case h => first | exact rfl | assumption))
  | ((with_reducible refine' iteDF ?h ?_); (case h => first | assumption | (intro z; cases z)))
  | ((with_reducible refine' iteNF ?h ?_); (case h => first | assumption | (intro z; cases z)))
  | ((with_reducible refine' g_eq ?_ ?h); (case h => exact rfl))
  | ((with_reducible refine' g_ne ?_ ?h); (case h => exact rfl))
  | ((with_reducible refine' g_ixT ?_ ?h ?e); (case h => walk_at "hpT"); (case e => first | exact rfl | exact atI_0 | exact atI_1))
  | ((with_reducible refine' g_ixL ?_ ?h ?e); (case h => walk_at "hpL"); (case e => first | exact rfl | exact atI_0 | exact atI_1))
  | ((with_reducible refine' g_isi_int ?_ ?h); (case h => walk_at "kit"))
  | ((with_reducible refine' g_isi_str ?_ ?h); (case h => walk_at "kit"))
  | ((with_reducible refine' g_isi_bl ?_ ?h); (case h => walk_at "kit"))
  | ((with_reducible refine' g_isi_non ?_ ?h); (case h => walk_at "kit"))
  | ((with_reducible refine' g_isi_t ?_ ?t ?h); (case t => walk_at "hpT"); (case h => walk_at "kit"))
  | ((with_reducible refine' g_isi_l ?_ ?t ?h ?l); (case l => walk_at "hpH"); (case t => walk_at "hpL"); (case h => walk_at "kit"))
  | ((with_reducible refine' g_lenT ?_ ?h); (case h => walk_at "hpT"))
  | ((with_reducible refine' g_lenL ?_ ?h); (case h => walk_at "hpL"))
  | ((with_reducible refine' g_split ?_ ?h ?side); (case h => exact rfl); intro pnew hpnew)
  | ((with_reducible refine' g_slL ?h ?_); (case h => walk_at "hpL"); intro pnew hpnew)
  | ((with_reducible refine' g_iListE ?_ ?h); (case h => walk_at "hpL"))
  | ((with_reducible refine' g_iTupE ?_ ?h); (case h => walk_at "hpT"))
  | ((with_reducible refine' g_tyL ?_ ?h); (case h => walk_at "hpL"))
  | ((with_reducible refine' g_join ?_ ?h ?side); (case h => walk_at "hpL"))
  | ((with_reducible refine' g_append ?_ ?h ?side); (case h => walk_at "hpH"))
  | ((with_reducible refine' g_all ?_ ?h); (case h => walk_at "hpL"))
  | ((with_reducible refine' g_gTup ?_ ?h ?n); (case h => walk_at "hpT"); (case n => exact rfl))
  | ((with_reducible refine' g_revLE ?h ?_); (case h => walk_at "hpL"); intro pnew hpnew)
  | ((with_reducible refine' g_isN1 ?_ ?h); (case h => first | assumption | (intro z; cases z)))
  | ((with_reducible refine' g_notN1 ?_ ?h); (case h => first | assumption | (intro z; cases z)))
  | walk_at "call"
  | ((with_reducible refine' iteBT ?h ?_); (case h => first | assumption | exact rfl))
  | ((with_reducible refine' iteBF ?h ?_); (case h => first | assumption | exact rfl))
  | fail)
local macro_rules | `(tactic| walk_at "nrm") => `(tactic| simp only [Bool.not_true, Bool.not_false, decide_eq_true_eq, decide_true, decide_false, Bool.true_and, Bool.false_and, Bool.and_true, Bool.and_false, V.int.injEq, V.bl.injEq, V.str.injEq, List.length_cons, List.length_nil, Bool.not_eq_true', decide_eq_false_iff_not, Int.not_lt, Int.not_le, reduceCtorEq, not_false_eq_true, not_true_eq_false, Decidable.not_not] at *)
local macro_rules | `(tactic| walk_at "sp") => `(tactic| ((with_reducible refine ite2 (fun c => ?_) (fun c => ?_)) <;> (try simp only [decide_eq_true_eq, Bool.not_eq_true', decide_eq_false_iff_not, V.int.injEq, V.bl.injEq, V.str.injEq, Int.not_lt, Int.not_le, reduceCtorEq, Decidable.not_not, Bool.false_eq_true, Bool.true_eq_false] at c) <;> (try (exfalso; omega))))
local macro_rules | `(tactic| walk_at "s") => `(tactic| first | walk_at "s0" | walk_at "s1" | fail)
local macro_rules | `(tactic| walk_at "go") => `(tactic| (try dsimp only [cxK, cxK']); repeat' walk_at "s")
local macro_rules | `(tactic| walk_at "gos") => `(tactic| ((try dsimp only [cxK, cxK']); repeat' (first | walk_at "s" | walk_at "sp" | fail)))

local macro_rules | `(tactic| walk_at "hpNo") => `(tactic| with_reducible first
  | assumption
  | (refine' Nm.ofPr ?hq; (case hq => assumption))
  | (refine' Nm.same (same_new (by assumption)) ?hq; (case hq => walk_at "hpNo"))
  | (refine' Nm.same (by assumption) ?hq; (case hq => walk_at "hpNo"))
  | fail)
local macro_rules | `(tactic| walk_at "hpN") => `(tactic| with_reducible first
  | walk_at "hpNo"
  | (refine' Nm.of ?hq; (case hq => walk_at "hpH"))
  | fail)
local macro_rules | `(tactic| walk_at "hpPo") => `(tactic| with_reducible first
  | assumption
  | (refine' Pr.same (same_new (by assumption)) ?hq; (case hq => walk_at "hpPo"))
  | (refine' Pr.same (by assumption) ?hq; (case hq => walk_at "hpPo"))
  | fail)
local macro_rules | `(tactic| walk_at "hpP") => `(tactic| with_reducible first
  | walk_at "hpPo"
  | (refine' Pr.of ?hq; (case hq => walk_at "hpH"))
  | fail)
local macro_rules | `(tactic| walk_at "hpDo") => `(tactic| with_reducible first
  | assumption
  | exact Dq.int _ | exact Dq.bl _ | exact Dq.str _ | exact Dq.non
  | (refine' Dq.same (same_new (by assumption)) ?hq; (case hq => walk_at "hpDo"))
  | (refine' Dq.same (by assumption) ?hq; (case hq => walk_at "hpDo"))
  | fail)
local macro_rules | `(tactic| walk_at "hpD") => `(tactic| with_reducible first
  | walk_at "hpDo"
  | fail)

local macro_rules | `(tactic| walk_at "call") => `(tactic| first
  | (with_reducible refine g_iRng2 ?_) | (with_reducible refine g_iRng2E ?_ ?side)
  | fail)
section
variable {P : Program} {w : World} {K : Fg} {mg : Str → Option Value} {base : Heap} {f f1 f2 f3 f4 : Addr} {fd : FuncData}
theorem ok_l_loft (F : Fun K "_law_loft" "_law_loft" s_l_loft f fd) (T : Blt mg) : FnOk P w K mg base CX0 1 f fd ["_law_base", "_law_low_here", "_law_cap", "_law_high"] spLLoft := by
  refine F.ok sc_l_loft (fun vs H Q E h => ?_) (fun cdv A outer s H vs Q E hr h => ?_)
  · obtain ⟨l1, l2, tl, th, xs, ys, ss, ts, p, q, rfl, _⟩ := h
    rfl
  · obtain ⟨l1, l2, tl, th, xs, ys, ss, ts, p, q, rfl, hl1, hl2, hxs, hys, htl, hth, h3, h100, h100', k⟩ := h
    have lx := hxs.length
    have ly := hys.length
    rw [List.length_map] at lx ly
    have k : ∀ r H', Same H H' → Dq H' (.ref r) (.lst [.lst ((loftC ss p ts q).map cnD), .lst ((loftF xs.length).map fcD)]) → Q (.ref r) H' := by
      rw [lx]
      exact k
    have hm3 : 3 ≤ xs.length := by omega
    have hm100 : xs.length ≤ 100 := by omega
    refine ⟨_, (pss_cons (ps_set (i := 4) sc_l_loft.nd rfl (.inl rfl) (pe_callB (cg_lenK K) (by rfl) T.n_len (by decide +kernel) (pa_cons (pv 0) pa_nil)))
      (pss_cons (ps_set (i := 5) sc_l_loft.nd rfl (.inl rfl) (pe_lst pa_nil))
      (pss_cons (ps_for PassesOwn.never rfl (pi_range1 (by rfl) T.n_range (pa_cons (pv 4) pa_nil)) (pg_name (i := 6) sc_l_loft.nd rfl (.inl rfl))
      (pss_cons (ps_set (i := 7) sc_l_loft.nd rfl (.inl rfl) (pe_op op_mod (pe_callTy cg_int (by rfl) T.n_int (by decide +kernel) (pa_cons (pe_op op_add (pv 6) pe_int) pa_nil)) (pv 4)))
      (pss_one (ps_set (i := 5) sc_l_loft.nd rfl (.inl rfl) (pe_op op_cat (pv 5) (pe_lst (pa_cons (pe_tup (pa_cons (pv 6) (pa_cons (pv 7) (pa_cons (pe_op op_add (pv 4) (pv 7)) pa_nil)))) (pa_cons (pe_tup (pa_cons (pv 6) (pa_cons (pe_op op_add (pv 4) (pv 7)) (pa_cons (pe_op op_add (pv 4) (pv 6)) pa_nil)))) pa_nil))))))))
      (pss_cons (ps_for PassesOwn.never rfl (pi_range2 (by rfl) T.n_range (pa_cons pe_int (pa_cons (pe_op op_sub (pv 4) pe_int) pa_nil))) (pg_name (i := 7) sc_l_loft.nd rfl (.inl rfl))
      (pss_one (ps_expr (pe_bm PySem.F.plainAttrs_list PySem.F.slot_list_append PySem.F.type_list_append mt_append (pv 5) (pa_cons (pe_tup (pa_cons pe_int (pa_cons (pe_op op_add (pv 7) pe_int) (pa_cons (pv 7) pa_nil)))) pa_nil)))))
      (pss_cons (ps_for PassesOwn.never rfl (pi_range2 (by rfl) T.n_range (pa_cons pe_int (pa_cons (pe_op op_sub (pv 4) pe_int) pa_nil))) (pg_name (i := 7) sc_l_loft.nd rfl (.inl rfl))
      (pss_one (ps_expr (pe_bm PySem.F.plainAttrs_list PySem.F.slot_list_append PySem.F.type_list_append mt_append (pv 5) (pa_cons (pe_tup (pa_cons (pv 4) (pa_cons (pe_op op_add (pv 4) (pv 7)) (pa_cons (pe_op op_add (pe_op op_add (pv 4) (pv 7)) pe_int) pa_nil)))) pa_nil)))))
      (pss_one (ps_ret (pe_lst (pa_cons (pe_op op_cat (pe_lc (own := [("_law_spot", 8)]) (g := gName 8) (tt := tYes) rfl sc_l_loft.nd (pi_list (pv 0)) (blkOk_by (N := ["_law_base", "_law_low_here", "_law_cap", "_law_high", "_law_m", "_law_found", "_law_i", "_law_j", "_law_spot"]) (sc := defScope s_l_loft) (by decide +kernel)) (fun _ _ _ _ _ => pg_name (i := 8) sc_l_loft.nd rfl (.inl rfl)) (fun _ _ _ _ _ => pts_nil) (fun _ _ _ _ _ => (pe_tup (pa_cons (pe_ix (ix_seqK K) (pv 8) pe_int (fun _ _ => rfl)) (pa_cons (pe_ix (ix_seqK K) (pv 8) pe_int (fun _ _ => rfl)) (pa_cons (pv 1) pa_nil)))))) (pe_lc (own := [("_law_spot", 8)]) (g := gName 8) (tt := tYes) rfl sc_l_loft.nd (pi_list (pv 2)) (blkOk_by (N := ["_law_base", "_law_low_here", "_law_cap", "_law_high", "_law_m", "_law_found", "_law_i", "_law_j", "_law_spot"]) (sc := defScope s_l_loft) (by decide +kernel)) (fun _ _ _ _ _ => pg_name (i := 8) sc_l_loft.nd rfl (.inl rfl)) (fun _ _ _ _ _ => pts_nil) (fun _ _ _ _ _ => (pe_tup (pa_cons (pe_ix (ix_seqK K) (pv 8) pe_int (fun _ _ => rfl)) (pa_cons (pe_ix (ix_seqK K) (pv 8) pe_int (fun _ _ => rfl)) (pa_cons (pv 3) pa_nil))))))) (pa_cons (pv 5) pa_nil)))))))))), ?_⟩
    walk_at "go"
    any_goals omega
    rename_i l0 nl0
    have s0 := same_new (o := .lst []) nl0
    refine for_range (lo := 0) (n := xs.length) (fun i σ H' => ∃ (l : Addr) (v6 v7 v8 : Option V) (fl : List V), σ = [some (.ref l1), some (.ref tl), some (.ref l2), some (.ref th), some (.int xs.length), some (.ref l), v6, v7, none] ∧ Same H H' ∧ H l = none ∧ H' l = some (.lst fl) ∧ DqAll H' fl ((sidesF xs.length i).map fcD))
      ⟨l0, none, none, none, [], rfl, s0, nl0, upd_same, .nil⟩ (fun i σ H' hi h => ?_) (fun σ H' h => ?_)
    · obtain ⟨l, v6, v7, v8, fl, rfl, s1, nl, hl, hq⟩ := h
      have hfl := hq.length
      rw [List.length_map, sides_len] at hfl
      walk_at "go"
      any_goals omega
      rename_i t1 n1 t2 n2 t3 n3
      refine g_catK (fun l' nl' => ?_) (by walk_at "hpH") upd_same (by simp only [List.length_cons, List.length_nil]; omega)
      have h1 := upd_same (H := H') (a := t1) (o := .tup [.int (0 + (i : Int)), .int ((0 + (i : Int) + 1) % xs.length), .int (xs.length + (0 + (i : Int) + 1) % xs.length)])
      have s2 := same_new (o := .tup [.int (0 + (i : Int)), .int ((0 + (i : Int) + 1) % xs.length), .int (xs.length + (0 + (i : Int) + 1) % xs.length)]) n1
      generalize upd H' t1 (.tup [.int (0 + (i : Int)), .int ((0 + (i : Int) + 1) % xs.length), .int (xs.length + (0 + (i : Int) + 1) % xs.length)]) = H2 at *
      have h2 := upd_same (H := H2) (a := t2) (o := .tup [.int (0 + (i : Int)), .int (xs.length + (0 + (i : Int) + 1) % xs.length), .int (xs.length + (0 + (i : Int)))])
      have s3 := same_new (o := .tup [.int (0 + (i : Int)), .int (xs.length + (0 + (i : Int) + 1) % xs.length), .int (xs.length + (0 + (i : Int)))]) n2
      generalize upd H2 t2 (.tup [.int (0 + (i : Int)), .int (xs.length + (0 + (i : Int) + 1) % xs.length), .int (xs.length + (0 + (i : Int)))]) = H3 at *
      have s4 := same_new (o := .lst [.ref t1, .ref t2]) n3
      have s5 := same_new (o := .lst (fl ++ [.ref t1, .ref t2])) nl'
      have s24 := s4.trans s5
      have s14 := s3.trans s24
      have sA := (s2.trans s14)
      refine ⟨l', _, _, none, fl ++ [.ref t1, .ref t2], rfl, s1.trans sA, ?_, upd_same, ?_⟩
      · exact ((s1.trans s2).trans (s3.trans s4)).free nl'
      · rw [sides_succ, List.map_append]
        exact DqAll.app (hq.same sA) (.cons (dq_fc (s14 _ _ h1)) (.cons (dq_fc (s24 _ _ h2)) .nil))
    · obtain ⟨l, v6, v7, v8, fl, rfl, s1, nl, hl, hq⟩ := h
      have hfl := hq.length
      rw [List.length_map, sides_len] at hfl
      have g0 : Gr H l (sidesF xs.length xs.length) H' := ⟨same_dels nl s1, fl, hl, DqAll.dels hl hq (fc_noLs _)⟩
      clear hl hq hfl fl s1
      walk_at "go"
      any_goals omega
      have en : ((xs.length : Int) - 1 - 1).toNat = xs.length - 2 := by omega
      rw [en]
      refine for_range (lo := 1) (n := xs.length - 2) (fun i σ H' => ∃ (v6 v7 : Option V), σ = [some (.ref l1), some (.ref tl), some (.ref l2), some (.ref th), some (.int xs.length), some (.ref l), v6, v7, none] ∧ Gr H l (sidesF xs.length xs.length ++ (List.range i).map lowF) H')
        ⟨v6, v7, rfl, by simpa using g0⟩ (fun i σ H' hi h => ?_) (fun σ H' h => ?_)
      · obtain ⟨v6, v7, rfl, g⟩ := h
        obtain ⟨fl, hl, hq⟩ := g.at_
        have hfl := hq.length
        rw [List.length_map, List.length_append, sides_len, List.length_map, List.length_range] at hfl
        walk_at "go"
        any_goals (exact (Nat.lt_of_lt_of_le (show fl.length < 1000 by omega) (by rw [sizeLine_eq]; decide)))
        rename_i t1 n1
        refine ⟨_, _, rfl, ?_⟩
        rw [lows_succ, ← List.append_assoc]
        exact Gr.ext (Gr.same g (same_new n1)) (same_new n1 _ _ hl) (.cons (dq_fc (mk_at upd_same (ne_of_none hl n1).symm)) .nil)
      · obtain ⟨v6, v7, rfl, g1⟩ := h
        walk_at "go"
        any_goals omega
        rw [en]
        refine for_range (lo := 1) (n := xs.length - 2) (fun i σ H' => ∃ (v6 v7 : Option V), σ = [some (.ref l1), some (.ref tl), some (.ref l2), some (.ref th), some (.int xs.length), some (.ref l), v6, v7, none] ∧ Gr H l (sidesF xs.length xs.length ++ (List.range (xs.length - 2)).map lowF ++ (List.range i).map (topF xs.length)) H')
          ⟨v6, v7, rfl, by simpa using g1⟩ (fun i σ H' hi h => ?_) (fun σ H' h => ?_)
        · obtain ⟨v6, v7, rfl, g⟩ := h
          obtain ⟨fl, hl, hq⟩ := g.at_
          have hfl := hq.length
          rw [List.length_map, List.length_append, List.length_append, sides_len, List.length_map, List.length_map, List.length_range, List.length_range] at hfl
          walk_at "go"
          any_goals (exact (Nat.lt_of_lt_of_le (show fl.length < 1000 by omega) (by rw [sizeLine_eq]; decide)))
          rename_i t1 n1
          refine ⟨_, _, rfl, ?_⟩
          rw [tops_succ, ← List.append_assoc]
          exact Gr.ext (Gr.same g (same_new n1)) (same_new n1 _ _ hl) (.cons (dq_fc (mk_at upd_same (ne_of_none hl n1).symm)) .nil)
        · obtain ⟨v6, v7, rfl, g⟩ := h
          have g : Gr H l (loftF xs.length) H' := g
          have s2 : Same H H' := g.s.trans mk_same
          obtain ⟨fl, hl, hq⟩ := g.at_
          have hq := hq.same mk_same
          clear g g1 g0
          have hxs2 := hxs.same s2
          have hys2 := hys.same s2
          have hl12 := s2 _ _ hl1
          have hl22 := s2 _ _ hl2
          have htl2 := s2 _ _ htl
          have hth2 := s2 _ _ hth
          walk_at "go"
          intro D hD
          refine lcA (walk_list (K := K) (a := l1) (xs := xs)) hD (fun H' i y => ∃ c, (ss.map fun s => ((s.1, s.2, p) : Cn))[i]? = some c ∧ Dq (delH H' D) y (cnD c)) (by omega) (fun H5 s5 => SqL.of (s5 _ _ hl12)) (fun H5 H6 i y bt z => ?_) (fun i x H5 H5' hi s5 hD5 y' Kt kt => ?_) (fun H5 us s5 hU hul hus => ?_) gm_name
          · obtain ⟨c, e, z⟩ := z
            exact ⟨c, e, z.same (but_same bt)⟩
          · obtain ⟨rfl, hx⟩ := y'
            obtain ⟨dd, hdd, qd⟩ := hxs2.at hx
            rw [List.getElem?_map] at hdd
            obtain ⟨sp, hsp, rfl⟩ := Option.map_eq_some_iff.mp hdd
            obtain ⟨t, u, w, rfl, ht, pu, pw⟩ := spot_dq qd
            have ht5 := s5 _ _ ht
            obtain ⟨acc, hA⟩ := hD5
            refine g_wipe rfl ?_
            walk_at "go"
            rename_i tn ntn
            have s6 := same_new (o := .tup [u, w, .ref tl]) ntn
            refine kt _ _ s6 ⟨_, by rw [List.getElem?_map, hsp]; rfl, Dq.dels (.tup upd_same (.cons ((pu.same s5).same s6).dq (.cons ((pw.same s5).same s6).dq (.cons (Pr.dq ⟨tl, rfl, s6 _ _ (s5 _ _ htl2)⟩) .nil)))) rfl (s6 _ _ hA)⟩
          have qA : DqAll H5 us ((ss.map fun s => ((s.1, s.2, p) : Cn)).map cnD) := DqAll.same mk_same (dqAll_of (H := delH H5 D) (by rw [List.length_map, List.length_map]; omega) fun i v e => by
            obtain ⟨c, e1, z⟩ := hus i v e
            exact ⟨_, by rw [List.getElem?_map, e1]; rfl, z⟩)
          have hl25 := s5 _ _ hl22
          have hys5 := hys2.same s5
          have hth5 := s5 _ _ hth2
          walk_at "go"
          intro D2 hD2
          refine lcA (walk_list (K := K) (a := l2) (xs := ys)) hD2 (fun H' i y => ∃ c, (ts.map fun s => ((s.1, s.2, q) : Cn))[i]? = some c ∧ Dq (delH H' D2) y (cnD c)) (by omega) (fun H7 s7 => SqL.of (s7 _ _ hl25)) (fun H7 H6 i y bt z => ?_) (fun i x H7 H7' hi s7 hD7 y' Kt kt => ?_) (fun H7 ws s7 hW hwl hws => ?_) gm_name
          · obtain ⟨c, e, z⟩ := z
            exact ⟨c, e, z.same (but_same bt)⟩
          · obtain ⟨rfl, hx⟩ := y'
            obtain ⟨dd, hdd, qd⟩ := hys5.at hx
            rw [List.getElem?_map] at hdd
            obtain ⟨sp, hsp, rfl⟩ := Option.map_eq_some_iff.mp hdd
            obtain ⟨t, u, w, rfl, ht, pu, pw⟩ := spot_dq qd
            have ht5 := s7 _ _ ht
            obtain ⟨acc, hA⟩ := hD7
            refine g_wipe rfl ?_
            walk_at "go"
            rename_i tn ntn
            have s6 := same_new (o := .tup [u, w, .ref th]) ntn
            refine kt _ _ s6 ⟨_, by rw [List.getElem?_map, hsp]; rfl, Dq.dels (.tup upd_same (.cons ((pu.same s7).same s6).dq (.cons ((pw.same s7).same s6).dq (.cons (Pr.dq ⟨th, rfl, s6 _ _ (s7 _ _ hth5)⟩) .nil)))) rfl (s6 _ _ hA)⟩
          have qB : DqAll H7 ws ((ts.map fun s => ((s.1, s.2, q) : Cn)).map cnD) := DqAll.same mk_same (dqAll_of (H := delH H7 D2) (by rw [List.length_map, List.length_map]; omega) fun i v e => by
            obtain ⟨c, e1, z⟩ := hws i v e
            exact ⟨_, by rw [List.getElem?_map, e1]; rfl, z⟩)
          walk_at "go"
          refine g_catK (fun lc nlc => ?_) (s7 _ _ hU) hW (by omega)
          have s8 := same_new (o := .lst (us ++ ws)) nlc
          have hC : upd H7 lc (.lst (us ++ ws)) lc = some (.lst (us ++ ws)) := upd_same
          have s58 := (s5.trans s7).trans s8
          have qC : DqAll (upd H7 lc (.lst (us ++ ws))) (us ++ ws) ((loftC ss p ts q).map cnD) := by
            unfold loftC
            rw [List.map_append]
            exact (DqAll.app (qA.same s7) qB).same s8
          generalize upd H7 lc (.lst (us ++ ws)) = H8 at s58 hC qC
          walk_at "go"
          rename_i r nr
          have s9 := same_new (o := .lst [.ref lc, .ref l]) nr
          refine k r _ (s2.trans (s58.trans s9)) (.lst upd_same (.cons (.lst (s9 _ _ hC) (qC.same s9)) (.cons (.lst (s9 _ _ (s58 _ _ hl)) ((hq.same s58).same s9)) .nil)))
end
end Ko


namespace Ko
open PySem L2 PySem.Spec PyProof.Rows Xm
theorem join_S {a : TS} {D : Ends} {σ : Sg} {H : Hp} (R : Sg → Hp → Prop) (h : ∀ nx', (∀ σ' H', R σ' H' → nx' σ' H') → a { D with nx := nx' } σ H) (j : ∀ σ' H', R σ' H' → D.nx σ' H') : a D σ H := h D.nx j
theorem ite_join {p : Prop} [Decidable p] {a1 a2 : TE} {σ : Sg} {H : Hp} {Q : VK} (R : V → Hp → Prop) (a : p → ∀ Q' : VK, (∀ x H', R x H' → Q' x H') → a1 σ H Q') (b : ¬ p → ∀ Q' : VK, (∀ x H', R x H' → Q' x H') → a2 σ H Q') (j : ∀ x H', R x H' → Q x H') : if p then a1 σ H Q else a2 σ H Q := by
  split
  · exact a (by assumption) Q j
  · exact b (by assumption) Q j
theorem cutV_to {xs : List V} {n : Nat} (h : n ≤ xs.length) : cutV xs none (some (n : Int)) = xs.take n := by
  unfold cutV
  have e1 : HT.sIx xs.length xs.length (some (n : Int)) = n := by
    unfold HT.sIx
    simp
    split <;> omega
  have e2 : HT.sIx xs.length 0 none = 0 := rfl
  rw [e1, e2]
  simp
/-- a pair of small ints -/
def IntP (H : Hp) (v : V) : Prop := ∃ t n m, v = .ref t ∧ H t = some (.tup [.int n, .int m]) ∧ (n : Int).natAbs ≤ 30 ∧ (m : Int).natAbs ≤ 30
theorem IntP.same {H H' : Hp} {v : V} (s : Same H H') (h : IntP H v) : IntP H' v := by
  obtain ⟨t, n, m, e, h1, h2⟩ := h
  exact ⟨t, n, m, e, s _ _ h1, h2⟩
theorem is_low30 {n d : Int} (hn : n.natAbs ≤ 30) (hd : d = 1 ∨ d = 2 ∨ d = 3) : Lo (low n d) ∧ ∃ N, Is 27720 N (low n d) ∧ N.natAbs ≤ 1000000 := by
  have d0 : 0 < d := by omega
  refine ⟨low_lo d0, n * (27720 / d), Is.low d0 (by decide) ?_, ?_⟩
  · rcases hd with rfl | rfl | rfl
    · show n * 27720 = n * 27720 * 1
      omega
    · show n * 27720 = n * 13860 * 2
      omega
    · show n * 27720 = n * 9240 * 3
      omega
  · rcases hd with rfl | rfl | rfl
    · show (n * 27720).natAbs ≤ 1000000
      omega
    · show (n * 13860).natAbs ≤ 1000000
      omega
    · show (n * 9240).natAbs ≤ 1000000
      omega
def SpQ (s : Sp2) (z : Z2) : Prop := SpR s z ∧ z.1.natAbs ≤ 1000000 ∧ z.2.natAbs ≤ 1000000
theorem to_BB {n : Nat} (h : n ≤ 1000000) : n ≤ BB := Nat.le_trans h (by decide)
def spRing : Sp := fun vs H Q _ => ∃ (N : Nat) (b c : Addr), vs = [.ref b] ∧ Bag N H b c ∧ 20 ≤ N ∧ ∀ (l : Addr) (xs : List V) (ss : List Sp2) (zs : List Z2) (H' : Hp), Same (delH H b) (delH H' b) → Bag (N - 20) H' b c → l ≠ b → H' l = some (.lst xs) → DqAll H' xs (ss.map spD) → (∀ s ∈ ss, SpOk s) → Paired SpQ ss zs → 3 ≤ ss.length → ss.length ≤ 5 → Q (.ref l) H'
theorem sp_ofK {N : Nat} {H : Hp} {Q : VK} {E : XK} {b c l : Addr} {xs : List V} (k : ∀ (i : Nat) x H', xs[i]? = some x → Same (delH H b) (delH H' b) → Bag (N - 1) H' b c → Q x H') (h : delH H b l = some (.lst xs)) (B : Bag N H b c) (hN : 1 ≤ N) (h0 : 0 < xs.length) (h1 : xs.length < 1000) : spOf [.ref b, .ref l] H Q E := sp_of h B hN h0 h1 k
theorem sp_list {H : Hp} : ∀ {ys : List V}, (∀ (i : Nat) v, ys[i]? = some v → ∃ s z, Dq H v (spD s) ∧ SpOk s ∧ SpQ s z) → ∃ (ss : List Sp2) (zs : List Z2), ss.length = ys.length ∧ DqAll H ys (ss.map spD) ∧ (∀ s ∈ ss, SpOk s) ∧ Paired SpQ ss zs
  | [], _ => ⟨[], [], rfl, .nil, (fun s h => by cases h), .nil⟩
  | y :: ys, h => by
    obtain ⟨s, z, q, o, r⟩ := h 0 y rfl
    obtain ⟨ss, zs, hl, hq, ho, hr⟩ := sp_list (ys := ys) fun i v e => h (i + 1) v e
    refine ⟨s :: ss, z :: zs, by simp [hl], .cons q hq, fun x hx => ?_, .cons r hr⟩
    rcases List.mem_cons.mp hx with rfl | hx
    · exact o
    · exact ho x hx
theorem rot {xs : List V} {i : Int} (h0 : 0 ≤ i) (h1 : i < xs.length) : cutV xs (some i) none ++ cutV xs none (some i) = xs.drop i.toNat ++ xs.take i.toNat := by
  obtain ⟨n, rfl⟩ := Int.eq_ofNat_of_zero_le h0
  rw [cutV_from (by omega), cutV_to (by omega)]
  rfl

local macro_rules | `(tactic| walk_at "hpS") => `(tactic| with_reducible first
  | exact Same.refl _
  | assumption
  | (refine' Same.trans ?hq (same_new (by assumption)); (case hq => walk_at "hpS"))
  | (refine' Same.trans ?hq (by assumption); (case hq => walk_at "hpS"))
  | fail)
local macro_rules | `(tactic| walk_at "hpH") => `(tactic| with_reducible first
  | assumption
  | exact upd_same
  | (refine' same_at (same_new (by assumption)) ?hq; (case hq => walk_at "hpH"))
  | (refine' same_at (by assumption) ?hq; (case hq => walk_at "hpH"))
  | fail)
local macro_rules | `(tactic| walk_at "hpTo") => `(tactic| with_reducible first
  | assumption
  | (refine' sq_t (same_new (by assumption)) ?hq; (case hq => walk_at "hpTo"))
  | (refine' sq_t (by assumption) ?hq; (case hq => walk_at "hpTo"))
  | fail)
local macro_rules | `(tactic| walk_at "hpT") => `(tactic| with_reducible first
  | (refine' SqT.of ?hq; (case hq => walk_at "hpH"))
  | walk_at "hpTo"
  | fail)
local macro_rules | `(tactic| walk_at "hpLo") => `(tactic| with_reducible first
  | assumption
  | (refine' sq_l (same_new (by assumption)) ?hq; (case hq => walk_at "hpLo"))
  | (refine' sq_l (by assumption) ?hq; (case hq => walk_at "hpLo"))
  | fail)
local macro_rules | `(tactic| walk_at "hpL") => `(tactic| with_reducible first
  | (refine' SqL.of ?hq; (case hq => walk_at "hpH"))
  | walk_at "hpLo"
  | fail)
local macro_rules | `(tactic| walk_at "kit") => `(tactic| with_reducible first
  | exact kit_int_bool | exact kit_int_int | exact kit_int_tuple | exact kit_int_list | exact kit_int_str
  | exact kit_tuple_tuple | exact kit_tuple_int | exact kit_tuple_bool | exact kit_tuple_list | exact kit_tuple_str
  | exact kit_bool_bool | exact kit_bool_int | exact kit_bool_tuple | exact kit_bool_list | exact kit_bool_str
  | exact kit_str_str | exact kit_str_int | exact kit_str_bool | exact kit_str_tuple | exact kit_str_list
  | exact kit_NoneType_int | exact kit_NoneType_bool | exact kit_NoneType_tuple | exact kit_NoneType_list | exact kit_NoneType_str
  | exact kit_list_list | exact kit_list_tuple | exact kit_list_int | exact kit_list_bool | exact kit_list_str
  | fail)
local macro_rules | `(tactic| walk_at "call") => `(tactic| fail)
local macro_rules | `(tactic| walk_at "s0") => `(tactic| with_reducible first
  | refine g_seq ?_ | refine g_asg ?_ | refine g_name ?_ | refine g_ifS ?_ | refine g_ret ?_ | refine g_retN ?_ | refine g_next ?_
  | refine g_par ?_ | refine g_parE ?_ | refine g_drop ?_
  | refine g_c ?_ | refine g_op ?_ | refine g_un ?_ | refine g_cb ?_ | refine g_call ?_ | refine g_nil ?_ | refine g_cons ?_ | refine g_tup ?_ | refine g_lst ?_
  | refine g_test ?_ | refine g_B ?_ | refine g_blF ?_ | refine g_and ?_ | refine g_or ?_ | refine g_not ?_ | refine g_andV ?_ | refine g_orV ?_ | refine g_notV ?_ | refine g_if ?_
  | refine iteT ?_ | refine iteF ?_
  | refine g_chain ?_ | refine g_sl ?_ | refine g_noPart ?_ | refine g_part ?_ | refine g_partI ?_ | refine g_slS ?_ ?side | refine g_M1 ?_ | refine g_M1s ?_ | refine g_starts ?_ | refine g_bm ?_ | refine g_bm0 ?_ | refine g_tyS ?_
  | refine g_Fs ?_ | refine g_JsN ?_ | refine g_JsC ?_ | refine g_JsE ?_ ?side | refine g_fmt ?_ | refine g_fmtI ?_ ?side | refine g_fmtS ?_ ?side | refine g_iList ?_ | refine g_iTup ?_ | refine g_iStr ?_ | refine g_iStrE ?_ | refine g_iRng1 ?_ | refine g_iRng1E ?_ ?side1 ?side2 | refine g_yes ?_ | refine g_ckw ?_ | refine g_dget ?_ | refine g_dictZip ?_ | refine g_gCons ?_ | refine g_gNil ?_ | refine g_revL ?_ | refine g_for ?_ | refine g_lc ?_ | refine g_addS ?_ ?side | refine g_str ?_ ?side | refine g_lenS ?_ ?side
  | refine g_rI0 ?_ | refine g_rI ?_ ?side | refine g_rU ?_ | refine g_abs ?_ | refine g_int ?_ | refine g_intB ?_ | refine g_gcd ?_ | refine g_inS ?_ | refine g_isN0 ?_ | refine g_notN0 ?_
  | fail)
local macro_rules | `(tactic| walk_at "s1") => `(tactic| first
  | ((with_reducible refine' g_var ?h ?_); (case h => exact rfl))
  | ((with_reducible refine' g_new ?h ?_); (case h => exact (by simp only [List.length_cons, List.length_nil]; decide)); intro tnew htnew)
  | ((with_reducible refine' iteDT ?h ?_); (case h => first | exact rfl | assumption))
  | ((with_reducible refine' iteNT ?h ?_); (case h => first | exact rfl | assumption))
  | ((with_reducible refine' iteDF ?h ?_); (case h => first | assumption | (intro z; cases z)))
  | ((with_reducible refine' iteNF ?h ?_); (case h => first | assumption | (intro z; cases z)))
  | ((with_reducible refine' g_eq ?_ ?h); (case h => exact rfl))
  | ((with_reducible refine' g_ne ?_ ?h); (case h => exact rfl))
  | ((with_reducible refine' g_ixT ?_ ?h ?e); (case h => walk_at "hpT"); (case e => first | exact rfl | exact atI_0 | exact atI_1))
  | ((with_reducible refine' g_ixL ?_ ?h ?e); (case h => walk_at "hpL"); (case e => first | exact rfl | exact atI_0 | exact atI_1))
  | ((with_reducible refine' g_isi_int ?_ ?h); (case h => walk_at "kit"))
  | ((with_reducible refine' g_isi_str ?_ ?h); (case h => walk_at "kit"))
  | ((with_reducible refine' g_isi_bl ?_ ?h); (case h => walk_at "kit"))
  | ((with_reducible refine' g_isi_non ?_ ?h); (case h => walk_at "kit"))
  | ((with_reducible refine' g_isi_t ?_ ?t ?h); (case t => walk_at "hpT"); (case h => walk_at "kit"))
  | ((with_reducible refine' g_isi_l ?_ ?t ?h ?l); (case l => walk_at "hpH"); (case t => walk_at "hpL"); (case h => walk_at "kit"))
  | ((with_reducible refine' g_lenT ?_ ?h); (case h => walk_at "hpT"))
  | ((with_reducible refine' g_lenL ?_ ?h); (case h => walk_at "hpL"))
  | ((with_reducible refine' g_split ?_ ?h ?side); (case h => exact rfl); intro pnew hpnew)
  | ((with_reducible refine' g_slL ?h ?_); (case h => walk_at "hpL"); intro pnew hpnew)
  | ((with_reducible refine' g_iListE ?_ ?h); (case h => walk_at "hpL"))
  | ((with_reducible refine' g_iTupE ?_ ?h); (case h => walk_at "hpT"))
  | ((with_reducible refine' g_tyL ?_ ?h); (case h => walk_at "hpL"))
  | ((with_reducible refine' g_join ?_ ?h ?side); (case h => walk_at "hpL"))
  | ((with_reducible refine' g_append ?_ ?h ?side); (case h => walk_at "hpH"))
  | ((with_reducible refine' g_all ?_ ?h); (case h => walk_at "hpL"))
  | ((with_reducible refine' g_gTup ?_ ?h ?n); (case h => walk_at "hpT"); (case n => exact rfl))
  | ((with_reducible refine' g_revLE ?h ?_); (case h => walk_at "hpL"); intro pnew hpnew)
  | ((with_reducible refine' g_isN1 ?_ ?h); (case h => first | assumption | (intro z; cases z)))
  | ((with_reducible refine' g_notN1 ?_ ?h); (case h => first | assumption | (intro z; cases z)))
  | walk_at "call"
  | ((with_reducible refine' iteBT ?h ?_); (case h => first | assumption | exact rfl))
  | ((with_reducible refine' iteBF ?h ?_); (case h => first | assumption | exact rfl))
  | fail)
local macro_rules | `(tactic| walk_at "nrm") => `(tactic| simp only [Bool.not_true, Bool.not_false, decide_eq_true_eq, decide_true, decide_false, Bool.true_and, Bool.false_and, Bool.and_true, Bool.and_false, V.int.injEq, V.bl.injEq, V.str.injEq, List.length_cons, List.length_nil, Bool.not_eq_true', decide_eq_false_iff_not, Int.not_lt, Int.not_le, reduceCtorEq, not_false_eq_true, not_true_eq_false, Decidable.not_not] at *)
local macro_rules | `(tactic| walk_at "sp") => `(tactic| ((with_reducible refine ite2 (fun c => ?_) (fun c => ?_)) <;> (try simp only [decide_eq_true_eq, Bool.not_eq_true', decide_eq_false_iff_not, V.int.injEq, V.bl.injEq, V.str.injEq, Int.not_lt, Int.not_le, reduceCtorEq, Decidable.not_not, Bool.false_eq_true, Bool.true_eq_false] at c) <;> (try (exfalso; omega))))
local macro_rules | `(tactic| walk_at "s") => `(tactic| first | walk_at "s0" | walk_at "s1" | fail)
local macro_rules | `(tactic| walk_at "go") => `(tactic| (try dsimp only [cxK, cxK']); repeat' walk_at "s")
local macro_rules | `(tactic| walk_at "gos") => `(tactic| ((try dsimp only [cxK, cxK']); repeat' (first | walk_at "s" | walk_at "sp" | fail)))

local macro_rules | `(tactic| walk_at "hpNo") => `(tactic| with_reducible first
  | assumption
  | (refine' Nm.ofPr ?hq; (case hq => assumption))
  | (refine' Nm.same (same_new (by assumption)) ?hq; (case hq => walk_at "hpNo"))
  | (refine' Nm.same (by assumption) ?hq; (case hq => walk_at "hpNo"))
  | fail)
local macro_rules | `(tactic| walk_at "hpN") => `(tactic| with_reducible first
  | walk_at "hpNo"
  | (refine' Nm.of ?hq; (case hq => walk_at "hpH"))
  | fail)
local macro_rules | `(tactic| walk_at "hpPo") => `(tactic| with_reducible first
  | assumption
  | (refine' Pr.same (same_new (by assumption)) ?hq; (case hq => walk_at "hpPo"))
  | (refine' Pr.same (by assumption) ?hq; (case hq => walk_at "hpPo"))
  | fail)
local macro_rules | `(tactic| walk_at "hpP") => `(tactic| with_reducible first
  | walk_at "hpPo"
  | (refine' Pr.of ?hq; (case hq => walk_at "hpH"))
  | fail)
local macro_rules | `(tactic| walk_at "hpDo") => `(tactic| with_reducible first
  | assumption
  | exact Dq.int _ | exact Dq.bl _ | exact Dq.str _ | exact Dq.non
  | (refine' Dq.same (same_new (by assumption)) ?hq; (case hq => walk_at "hpDo"))
  | (refine' Dq.same (by assumption) ?hq; (case hq => walk_at "hpDo"))
  | fail)
local macro_rules | `(tactic| walk_at "hpD") => `(tactic| with_reducible first
  | walk_at "hpDo"
  | fail)

local macro_rules | `(tactic| walk_at "hpM") => `(tactic| with_reducible first
  | assumption
  | (refine' mk_new ?hn ?hB; (case hn => assumption); (case hB => walk_at "hpB"))
  | (refine' mk_tup ?hn ?hB; (case hn => assumption); (case hB => walk_at "hpB"))
  | (refine' same_at (mk_upd (by assumption)) ?hq; (case hq => walk_at "hpM"))
  | (refine' same_at (show Same (delH _ _) (delH _ _) by assumption) ?hq; (case hq => walk_at "hpM"))
  | (refine' same_at (mk_mono (by assumption)) ?hq; (case hq => walk_at "hpM"))
  | fail)
local macro_rules | `(tactic| walk_at "hpSM") => `(tactic| with_reducible first
  | exact Same.refl _
  | assumption
  | (refine' Same.trans ?hq (mk_upd (by assumption)); (case hq => walk_at "hpSM"))
  | (refine' Same.trans ?hq (show Same (delH _ _) (delH _ _) by assumption); (case hq => walk_at "hpSM"))
  | (refine' Same.trans ?hq (mk_mono (by assumption)); (case hq => walk_at "hpSM"))
  | fail)
local macro_rules | `(tactic| walk_at "hpB") => `(tactic| with_reducible first
  | assumption
  | (refine' bag_upd ?hq (by assumption); (case hq => walk_at "hpB"))
  | (refine' bag_same ?hq (by assumption); (case hq => walk_at "hpB"))
  | fail)
local macro_rules | `(tactic| walk_at "hpHo") => `(tactic| with_reducible first
  | assumption
  | exact upd_same
  | (refine' same_at (same_new (by assumption)) ?hq; (case hq => walk_at "hpHo"))
  | (refine' same_at (by assumption) ?hq; (case hq => walk_at "hpHo"))
  | fail)
local macro_rules | `(tactic| walk_at "hpH") => `(tactic| with_reducible first
  | walk_at "hpHo"
  | (refine' same_at mk_same ?hq; (case hq => walk_at "hpM"))
  | fail)
local macro_rules | `(tactic| walk_at "hpNo") => `(tactic| with_reducible first
  | assumption
  | (refine' Nm.ofPr ?hq; (case hq => assumption))
  | (refine' Nm.same (same_new (by assumption)) ?hq; (case hq => walk_at "hpNo"))
  | (refine' Nm.same (by assumption) ?hq; (case hq => walk_at "hpNo"))
  | fail)
local macro_rules | `(tactic| walk_at "hpNMo") => `(tactic| with_reducible first
  | assumption
  | (refine' Nm.ofPr ?hq; (case hq => assumption))
  | (refine' Nm.same (mk_upd (by assumption)) ?hq; (case hq => walk_at "hpNMo"))
  | (refine' Nm.same (show Same (delH _ _) (delH _ _) by assumption) ?hq; (case hq => walk_at "hpNMo"))
  | (refine' Nm.same (mk_mono (by assumption)) ?hq; (case hq => walk_at "hpNMo"))
  | fail)
local macro_rules | `(tactic| walk_at "hpNM") => `(tactic| with_reducible first
  | walk_at "hpNMo"
  | (refine' Nm.of ?hq; (case hq => walk_at "hpM"))
  | fail)
local macro_rules | `(tactic| walk_at "hpN") => `(tactic| with_reducible first
  | walk_at "hpNo"
  | (refine' Nm.same mk_same ?hq; (case hq => walk_at "hpNMo"))
  | (refine' Nm.of ?hq; (case hq => walk_at "hpH"))
  | fail)
local macro_rules | `(tactic| walk_at "hpPo") => `(tactic| with_reducible first
  | assumption
  | (refine' Pr.same (same_new (by assumption)) ?hq; (case hq => walk_at "hpPo"))
  | (refine' Pr.same (by assumption) ?hq; (case hq => walk_at "hpPo"))
  | fail)
local macro_rules | `(tactic| walk_at "hpPMo") => `(tactic| with_reducible first
  | assumption
  | (refine' Pr.same (mk_upd (by assumption)) ?hq; (case hq => walk_at "hpPMo"))
  | (refine' Pr.same (show Same (delH _ _) (delH _ _) by assumption) ?hq; (case hq => walk_at "hpPMo"))
  | (refine' Pr.same (mk_mono (by assumption)) ?hq; (case hq => walk_at "hpPMo"))
  | fail)
local macro_rules | `(tactic| walk_at "hpPM") => `(tactic| with_reducible first
  | walk_at "hpPMo"
  | (refine' Pr.of ?hq; (case hq => walk_at "hpM"))
  | fail)
local macro_rules | `(tactic| walk_at "hpP") => `(tactic| with_reducible first
  | walk_at "hpPo"
  | (refine' Pr.same mk_same ?hq; (case hq => walk_at "hpPMo"))
  | (refine' Pr.of ?hq; (case hq => walk_at "hpH"))
  | fail)
local macro_rules | `(tactic| walk_at "hpDo") => `(tactic| with_reducible first
  | assumption
  | exact Dq.int _ | exact Dq.bl _ | exact Dq.str _ | exact Dq.non
  | (refine' Dq.same (same_new (by assumption)) ?hq; (case hq => walk_at "hpDo"))
  | (refine' Dq.same (by assumption) ?hq; (case hq => walk_at "hpDo"))
  | fail)
local macro_rules | `(tactic| walk_at "hpDMo") => `(tactic| with_reducible first
  | assumption
  | exact Dq.int _ | exact Dq.bl _ | exact Dq.str _ | exact Dq.non
  | (refine' Dq.same (mk_upd (by assumption)) ?hq; (case hq => walk_at "hpDMo"))
  | (refine' Dq.same (show Same (delH _ _) (delH _ _) by assumption) ?hq; (case hq => walk_at "hpDMo"))
  | (refine' Dq.same (mk_mono (by assumption)) ?hq; (case hq => walk_at "hpDMo"))
  | fail)
local macro_rules | `(tactic| walk_at "hpDM") => `(tactic| with_reducible first
  | walk_at "hpDMo"
  | fail)
local macro_rules | `(tactic| walk_at "hpD") => `(tactic| with_reducible first
  | walk_at "hpDo"
  | (refine' Dq.same mk_same ?hq; (case hq => walk_at "hpDMo"))
  | fail)
local macro_rules | `(tactic| walk_at "call") => `(tactic| first
  | ((with_reducible refine' sp_draw ?_ ?h ?side1 ?side2); (case h => walk_at "hpB"); intro idraw Hd' hi0 hi1 sd' bd')
  | fail)

local macro_rules | `(tactic| walk_at "call") => `(tactic| first
  | ((with_reducible refine' sp_draw ?_ ?h ?side1 ?side2 ?side3); (case h => walk_at "hpB"); intro idraw Hd' hi0 hi1 sd' bd')
  | ((with_reducible refine' sp_ofK ?_ ?h ?B ?side1 ?side2 ?side3); (case h => walk_at "hpM"); (case B => walk_at "hpB"); intro iof xof Hof hxof sof bof)
  | ((with_reducible refine' sp_low ?_ ?side1 ?side2); intro tp Hp' sp' hp')
  | (with_reducible refine g_par3 ?_) | (with_reducible refine g_par3E ?_)
  | fail)
section
variable {P : Program} {w : World} {K : Fg} {mg : Str → Option Value} {base : Heap} {f f1 f2 f3 : Addr} {fd : FuncData}
theorem ok_l_ring (F : Fun K "_law_ring" "_law_ring" s_l_ring f fd) (T : Blt mg) (D_l_draw : Df P w K mg base 1 "_law_draw" f1 ["_law_bag_here", "_law_many_y"] spDraw) (D_l_of : Df P w K mg base 2 "_law_of" f2 ["_law_bag_here", "_law_things"] spOf) (D_l_low : Df P w K mg base 1 "_law_low" f3 ["_law_num", "_law_den"] spLow) : FnOk P w K mg base CX0 3 f fd ["_law_bag_here"] spRing := by
  obtain ⟨_, G_l_draw, B_l_draw⟩ := D_l_draw.ok
  obtain ⟨_, G_l_of, B_l_of⟩ := D_l_of.ok
  obtain ⟨_, G_l_low, B_l_low⟩ := D_l_low.ok
  refine F.ok sc_l_ring (fun vs H Q E h => ?_) (fun cdv A outer s H vs Q E hr h => ?_)
  · obtain ⟨N, b, c, rfl, _⟩ := h
    rfl
  · obtain ⟨N, b, c, rfl, B, hN, k⟩ := h
    refine ⟨_, (pss_cons (ps_par3 (i := 1) (j := 2) (l := 3) rfl sc_l_ring.nd rfl rfl rfl (by decide) (by decide) (by decide) rfl rfl rfl (pa_cons (pe_call G_l_draw (hr.mono (by decide)) (by rfl) D_l_draw.g D_l_draw.kp B_l_draw .nil pass0 (pa_cons (pv 0) (pa_cons pe_int pa_nil))) (pa_cons (pe_call G_l_draw (hr.mono (by decide)) (by rfl) D_l_draw.g D_l_draw.kp B_l_draw .nil pass0 (pa_cons (pv 0) (pa_cons pe_int pa_nil))) (pa_cons (pe_call G_l_draw (hr.mono (by decide)) (by rfl) D_l_draw.g D_l_draw.kp B_l_draw .nil pass0 (pa_cons (pv 0) (pa_cons pe_int pa_nil))) pa_nil))) rfl)
      (pss_cons (ps_par (i := 4) (j := 5) rfl sc_l_ring.nd rfl rfl (by decide) rfl rfl (pa_cons (pe_op op_add pe_int (pe_call G_l_draw (hr.mono (by decide)) (by rfl) D_l_draw.g D_l_draw.kp B_l_draw .nil pass0 (pa_cons (pv 0) (pa_cons pe_int pa_nil)))) (pa_cons (pe_op op_add pe_int (pe_call G_l_draw (hr.mono (by decide)) (by rfl) D_l_draw.g D_l_draw.kp B_l_draw .nil pass0 (pa_cons (pv 0) (pa_cons pe_int pa_nil)))) pa_nil)) rfl)
      (pss_cons (ps_if (pt_cmpR op_lt (pv 1) pe_int (nomark _))
      (pss_one (ps_set (i := 6) sc_l_ring.nd rfl (.inl rfl) (pe_lst (pa_cons (pe_tup (pa_cons (pv 2) (pa_cons (pv 3) pa_nil))) (pa_cons (pe_tup (pa_cons (pe_op op_add (pv 2) (pv 4)) (pa_cons (pv 3) pa_nil))) (pa_cons (pe_tup (pa_cons (pe_op op_add (pv 2) (pv 4)) (pa_cons (pe_op op_add (pv 3) (pv 5)) pa_nil))) (pa_cons (pe_tup (pa_cons (pv 2) (pa_cons (pe_op op_add (pv 3) (pv 5)) pa_nil))) pa_nil))))))) (pss_one (ps_if (pt_cmpR op_eq (pv 1) pe_int (nomark _))
      (pss_one (ps_set (i := 6) sc_l_ring.nd rfl (.inl rfl) (pe_lst (pa_cons (pe_tup (pa_cons (pv 2) (pa_cons (pv 3) pa_nil))) (pa_cons (pe_tup (pa_cons (pe_op op_add (pv 2) (pv 4)) (pa_cons (pe_op op_add (pv 3) (pe_call G_l_draw (hr.mono (by decide)) (by rfl) D_l_draw.g D_l_draw.kp B_l_draw .nil pass0 (pa_cons (pv 0) (pa_cons (pv 5) pa_nil)))) pa_nil))) (pa_cons (pe_tup (pa_cons (pe_op op_sub (pe_op op_add (pv 2) (pe_call G_l_draw (hr.mono (by decide)) (by rfl) D_l_draw.g D_l_draw.kp B_l_draw .nil pass0 (pa_cons (pv 0) (pa_cons (pe_op op_add (pv 4) pe_int) pa_nil)))) pe_int) (pa_cons (pe_op op_add (pv 3) (pv 5)) pa_nil))) pa_nil)))))) (pss_cons (ps_set (i := 7) sc_l_ring.nd rfl (.inl rfl) (pe_tup (pa_cons (pe_op op_add (pv 2) (pe_call G_l_draw (hr.mono (by decide)) (by rfl) D_l_draw.g D_l_draw.kp B_l_draw .nil pass0 (pa_cons (pv 0) (pa_cons (pe_op op_add (pv 4) pe_int) pa_nil)))) (pa_cons (pe_op op_add (pe_op op_add (pe_op op_add (pv 3) (pv 5)) pe_int) (pe_call G_l_draw (hr.mono (by decide)) (by rfl) D_l_draw.g D_l_draw.kp B_l_draw .nil pass0 (pa_cons (pv 0) (pa_cons pe_int pa_nil)))) pa_nil))))
      (pss_one (ps_set (i := 6) sc_l_ring.nd rfl (.inl rfl) (pe_lst (pa_cons (pe_tup (pa_cons (pv 2) (pa_cons (pv 3) pa_nil))) (pa_cons (pe_tup (pa_cons (pe_op op_add (pv 2) (pv 4)) (pa_cons (pv 3) pa_nil))) (pa_cons (pe_tup (pa_cons (pe_op op_add (pv 2) (pv 4)) (pa_cons (pe_op op_add (pv 3) (pv 5)) pa_nil))) (pa_cons (pv 7) (pa_cons (pe_tup (pa_cons (pv 2) (pa_cons (pe_op op_add (pv 3) (pv 5)) pa_nil))) pa_nil))))))))))))
      (pss_cons (ps_set (i := 8) sc_l_ring.nd rfl (.inr rfl) (pe_call G_l_of (hr.mono (by decide)) (by rfl) D_l_of.g D_l_of.kp B_l_of .nil pass0 (pa_cons (pv 0) (pa_cons (pe_lst (pa_cons pe_int (pa_cons pe_int (pa_cons pe_int (pa_cons pe_int (pa_cons pe_int (pa_cons pe_int (pa_cons pe_int (pa_cons pe_int pa_nil))))))))) pa_nil))))
      (pss_cons (ps_set (i := 9) sc_l_ring.nd rfl (.inl rfl) (pe_call G_l_draw (hr.mono (by decide)) (by rfl) D_l_draw.g D_l_draw.kp B_l_draw .nil pass0 (pa_cons (pv 0) (pa_cons (pe_callB (cg_lenK K) (by rfl) T.n_len (by decide +kernel) (pa_cons (pv 6) pa_nil)) pa_nil))))
      (pss_one (ps_ret (pe_lc (own := [("_law_spot", 10)]) (g := gName 10) (tt := tYes) rfl sc_l_ring.nd (pi_list (pe_op op_cat (pe_slice sl_list (pv 6) (po_some (pv 9)) po_none) (pe_slice sl_list (pv 6) po_none (po_some (pv 9))))) (blkOk_by (N := ["_law_bag_here", "_law_way", "_law_x", "_law_y", "_law_wide", "_law_tall", "_law_spots_here", "_law_top", "_law_den", "_law_at", "_law_spot"]) (sc := defScope s_l_ring) (by decide +kernel)) (fun _ _ _ _ _ => pg_name (i := 10) sc_l_ring.nd rfl (.inl rfl)) (fun _ _ _ _ _ => pts_nil) (fun _ _ _ _ _ => (pe_tup (pa_cons (pe_call G_l_low (hr.mono (by decide)) (by rfl) D_l_low.g D_l_low.kp B_l_low .nil pass0 (pa_cons (pe_ix (ix_seqK K) (pv 10) pe_int (fun _ _ => rfl)) (pa_cons (pv 8) pa_nil))) (pa_cons (pe_call G_l_low (hr.mono (by decide)) (by rfl) D_l_low.g D_l_low.kp B_l_low .nil pass0 (pa_cons (pe_ix (ix_seqK K) (pv 10) pe_int (fun _ _ => rfl)) (pa_cons (pv 8) pa_nil))) pa_nil)))))))))))), ?_⟩
    repeat (first | (fail_if_success (with_reducible refine g_ifS ?_)); walk_at "s")
    any_goals omega
    rename_i wy H1 w0 w1 s1 B1 x H2 x0 x1 s2 B2 y H3 y0 y1 s3 B3 wd H4 d0 d1 s4 B4 tl H5 t0 t1 s5 B5
    have s05 : Same (delH H b) (delH H5 b) := s1.trans (s2.trans (s3.trans (s4.trans s5)))
    refine join_S (fun σ' H' => ∃ (v7 : Option V) (l : Addr) (xs : List V), σ' = [some (.ref b), some (.int wy), some (.int x), some (.int y), some (.int (1 + wd)), some (.int (1 + tl)), some (.ref l), v7, none, none, none] ∧ Same (delH H5 b) (delH H' b) ∧ Bag (N - 7) H' b c ∧ l ≠ b ∧ H' l = some (.lst xs) ∧ 3 ≤ xs.length ∧ xs.length ≤ 5 ∧ ∀ v ∈ xs, IntP (delH H' b) v) (fun nx' jn => ?_) (fun σ' H6 h6 => ?_)
    · clear s1 s2 s3 s4 s5 B1 B2 B3 B4 s05 B
      walk_at "gos"
      any_goals omega
      · rename_i t1 n1 t2 n2 t3 n3 t4 n4 l nl
        refine jn _ _ ⟨_, l, _, rfl, by walk_at "hpSM", Bag.le (by walk_at "hpB") (by omega), (Bag.free (N := N - 1 - 1 - 1 - 1 - 1) (by walk_at "hpB") nl).1, upd_same, Nat.le_of_ble_eq_true rfl, Nat.le_of_ble_eq_true rfl, fun v hv => ?_⟩
        simp only [List.mem_cons, List.not_mem_nil, or_false] at hv
        rcases hv with rfl | rfl | rfl | rfl <;> exact ⟨_, _, _, rfl, by walk_at "hpM", by omega, by omega⟩
      · rename_i z1 t1 n1 g1 Hg1 g10 g11 sg1 Bg1 t2 n2 g2 Hg2 g20 g21 sg2 Bg2 t3 n3 l nl
        refine jn _ _ ⟨_, l, _, rfl, by walk_at "hpSM", Bag.le (by walk_at "hpB") (by omega), (Bag.free (N := N - 1 - 1 - 1 - 1 - 1 - 1 - 1) (by walk_at "hpB") nl).1, upd_same, Nat.le_of_ble_eq_true rfl, Nat.le_of_ble_eq_true rfl, fun v hv => ?_⟩
        simp only [List.mem_cons, List.not_mem_nil, or_false] at hv
        rcases hv with rfl | rfl | rfl <;> exact ⟨_, _, _, rfl, by walk_at "hpM", by omega, by omega⟩
      · rename_i z1 g1 Hg1 g10 g11 sg1 Bg1 g2 Hg2 g20 g21 sg2 Bg2 t0' n0' t1 n1 t2 n2 t3 n3 t4 n4 l nl
        refine jn _ _ ⟨_, l, _, rfl, by walk_at "hpSM", Bag.le (by walk_at "hpB") (by omega), (Bag.free (N := N - 1 - 1 - 1 - 1 - 1 - 1 - 1) (by walk_at "hpB") nl).1, upd_same, Nat.le_of_ble_eq_true rfl, Nat.le_of_ble_eq_true rfl, fun v hv => ?_⟩
        simp only [List.mem_cons, List.not_mem_nil, or_false] at hv
        rcases hv with rfl | rfl | rfl | rfl | rfl <;> exact ⟨_, _, _, rfl, by walk_at "hpM", by omega, by omega⟩
    · obtain ⟨v7, l, xs, rfl, s6, B6, hlb, hl, h3, h5, hel⟩ := h6
      have s06 := s05.trans s6
      clear s1 s2 s3 s4 s5 B1 B2 B3 B4 B5 s05 s6 B w0 w1 x0 x1 y0 y1 d0 d1 t0 t1
      walk_at "go"
      any_goals first
        | omega
        | (simp only [List.length_cons, List.length_nil]; omega)
        | skip
      rename_i l2 nl2 io xo H7 hxo s7 B7
      have s67 : Same (delH H6 b) (delH H7 b) := (mk_upd nl2).trans s7
      obtain ⟨dn, rfl, hdn⟩ : ∃ dn : Int, xo = .int dn ∧ (dn = 1 ∨ dn = 2 ∨ dn = 3) := by
        have hm := List.mem_of_getElem? hxo
        simp only [List.mem_cons, List.not_mem_nil, or_false] at hm
        rcases hm with rfl | rfl | rfl | rfl | rfl | rfl | rfl | rfl
        · exact ⟨1, rfl, by omega⟩
        · exact ⟨1, rfl, by omega⟩
        · exact ⟨1, rfl, by omega⟩
        · exact ⟨1, rfl, by omega⟩
        · exact ⟨1, rfl, by omega⟩
        · exact ⟨1, rfl, by omega⟩
        · exact ⟨2, rfl, by omega⟩
        · exact ⟨3, rfl, by omega⟩
      have hl7 : H7 l = some (.lst xs) := mk_same _ _ (s67 _ _ (mk_at hl hlb))
      clear s7 hxo nl2
      walk_at "go"
      any_goals omega
      rename_i ia H8 a0 a1 s8 B8
      have hl8 : H8 l = some (.lst xs) := mk_same _ _ (s8 _ _ (mk_at hl7 hlb))
      have s08 := s06.trans (s67.trans s8)
      have hel8 : ∀ v ∈ xs, IntP H8 v := fun v hv => ((hel v hv).same (s67.trans s8)).same mk_same
      clear s8 s67 s06 hl7 hl hel B6 B7
      refine g_slL (SqL.of hl8) fun p1 np1 => ?_
      walk_at "go"
      rename_i p2 np2
      have hp1 := same_new (o := .lst (cutV xs none (some ia))) np2 _ _ (upd_same (H := H8) (a := p1) (o := .lst (cutV xs (some ia) none)))
      have s9 := (same_new (o := .lst (cutV xs (some ia) none)) np1).trans (same_new (o := .lst (cutV xs none (some ia))) np2)
      have hp2 := upd_same (H := upd H8 p1 (.lst (cutV xs (some ia) none))) (a := p2) (o := .lst (cutV xs none (some ia)))
      generalize upd (upd H8 p1 (.lst (cutV xs (some ia) none))) p2 (.lst (cutV xs none (some ia))) = H9 at hp1 hp2 s9
      have ea := rot (xs := xs) a0 a1
      have la : (cutV xs (some ia) none).length + (cutV xs none (some ia)).length = xs.length := by
        rw [← List.length_append, ea, List.length_append, List.length_drop, List.length_take]
        omega
      refine g_catK (fun p3 np3 => ?_) hp1 hp2 (by omega)
      rw [ea]
      have s10 := s9.trans (same_new (o := .lst (xs.drop ia.toNat ++ xs.take ia.toNat)) np3)
      have hp3 := upd_same (H := H9) (a := p3) (o := .lst (xs.drop ia.toNat ++ xs.take ia.toNat))
      generalize upd H9 p3 (.lst (xs.drop ia.toNat ++ xs.take ia.toNat)) = H10 at s10 hp3
      have B10 := B8.same s10
      have lr : (xs.drop ia.toNat ++ xs.take ia.toNat).length = xs.length := by
        rw [List.length_append, List.length_drop, List.length_take]
        omega
      have hel10 : ∀ v ∈ xs.drop ia.toNat ++ xs.take ia.toNat, IntP H10 v := fun v hv => by
        refine (hel8 v ?_).same s10
        rcases List.mem_append.mp hv with hv | hv
        · exact List.mem_of_mem_drop hv
        · exact List.mem_of_mem_take hv
      generalize xs.drop ia.toNat ++ xs.take ia.toNat = ws at hp3 lr hel10
      clear hp1 hp2 s9 ea la np1 np2 np3 hel8 hl8
      walk_at "go"
      intro D hD
      have dn0 : 0 < dn := by omega
      have dnz : dn.natAbs < 2 ^ 8900 := up8900 (by omega)
      refine lcA (walk_list (K := K) (a := p3) (xs := ws)) hD (fun H' i y => ∃ s z, Dq (delH H' D) y (spD s) ∧ SpOk s ∧ SpQ s z) (by omega) (fun H5 s5 => SqL.of (s5 _ _ hp3)) (fun H5 H6 i y bt z => ?_) (fun i v H5 H5' hi s5 hD5 y' Kt kt => ?_) (fun H5 us s5 hU hul hus => ?_) gm_name
      · obtain ⟨s, z, q, r⟩ := z
        exact ⟨s, z, q.same (but_same bt), r⟩
      · obtain ⟨rfl, hx⟩ := y'
        obtain ⟨t, n, m, rfl, ht, hn, hm⟩ := hel10 _ (List.mem_of_getElem? hx)
        have ht5 := s5 _ _ ht
        obtain ⟨acc, hA⟩ := hD5
        refine g_wipe rfl ?_
        walk_at "go"
        any_goals assumption
        rename_i q1 K1 r1 k1 q2 K2 r2 k2 tn ntn
        have s6 := (r1.trans r2).trans (same_new (o := .tup [.ref q1, .ref q2]) ntn)
        obtain ⟨o1, N1, i1, b1⟩ := is_low30 hn hdn
        obtain ⟨o2, N2, i2, b2⟩ := is_low30 hm hdn
        have k1' := same_new (o := .tup [.ref q1, .ref q2]) ntn _ _ (r2 _ _ k1)
        have k2' := same_new (o := .tup [.ref q1, .ref q2]) ntn _ _ k2
        exact kt _ _ s6 ⟨(low n dn, low m dn), (N1, N2), Dq.dels (.tup upd_same (.cons (Pr.dq ⟨q1, rfl, k1'⟩) (.cons (Pr.dq ⟨q2, rfl, k2'⟩) .nil))) rfl (s6 _ _ hA), ⟨o1, o2⟩, ⟨⟨⟨i1, to_BB b1⟩, ⟨i2, to_BB b2⟩⟩, b1, b2⟩⟩
      · obtain ⟨ss, zs, e1, e2, e3, e4⟩ := sp_list hus
        have hDb : D ≠ b := (B10.free hD).1
        walk_at "go"
        exact k D us ss zs H5 (s08.trans (mk_mono (s10.trans s5))) ((B10.same s5).le (by omega)) hDb hU (e2.same mk_same) e3 e4 (by omega) (by omega)
end
end Ko


namespace Ko
open PySem L2 PySem.Spec PyProof.Rows Xm
def SmS (s : Sp2) : Prop := Small s.1 ∧ Small s.2
def spSpots : Sp := fun vs H Q _ => ∃ (N : Nat) (b c : Addr) (m : Nat), vs = [.ref b, .int (m : Int)] ∧ Bag N H b c ∧ 80 ≤ N ∧ m ≤ 8 ∧ ∀ (l : Addr) (xs : List V) (ss : List Sp2) (H' : Hp), Same (delH H b) (delH H' b) → Bag (N - 80) H' b c → l ≠ b → l ≠ c → delH H b l = none → H' l = some (.lst xs) → DqAll H' xs (ss.map spD) → (∀ s ∈ ss, SmS s) → ss.length = m → Q (.ref l) H'

local macro_rules | `(tactic| walk_at "hpS") => `(tactic| with_reducible first
  | exact Same.refl _
  | assumption
  | (refine' Same.trans ?hq (same_new (by assumption)); (case hq => walk_at "hpS"))
  | (refine' Same.trans ?hq (by assumption); (case hq => walk_at "hpS"))
  | fail)
local macro_rules | `(tactic| walk_at "hpH") => `(tactic| with_reducible first
  | assumption
  | exact upd_same
  | (refine' same_at (same_new (by assumption)) ?hq; (case hq => walk_at "hpH"))
  | (refine' same_at (by assumption) ?hq; (case hq => walk_at "hpH"))
  | fail)
local macro_rules | `(tactic| walk_at "hpTo") => `(tactic| with_reducible first
  | assumption
  | (refine' sq_t (same_new (by assumption)) ?hq; (case hq => walk_at "hpTo"))
  | (refine' sq_t (by assumption) ?hq; (case hq => walk_at "hpTo"))
  | fail)
local macro_rules | `(tactic| walk_at "hpT") => `(tactic| with_reducible first
  | (refine' SqT.of ?hq; (case hq => walk_at "hpH"))
  | walk_at "hpTo"
  | fail)
local macro_rules | `(tactic| walk_at "hpLo") => `(tactic| with_reducible first
  | assumption
  | (refine' sq_l (same_new (by assumption)) ?hq; (case hq => walk_at "hpLo"))
  | (refine' sq_l (by assumption) ?hq; (case hq => walk_at "hpLo"))
  | fail)
local macro_rules | `(tactic| walk_at "hpL") => `(tactic| with_reducible first
  | (refine' SqL.of ?hq; (case hq => walk_at "hpH"))
  | walk_at "hpLo"
  | fail)
local macro_rules | `(tactic| walk_at "kit") => `(tactic| with_reducible first
  | exact kit_int_bool | exact kit_int_int | exact kit_int_tuple | exact kit_int_list | exact kit_int_str
  | exact kit_tuple_tuple | exact kit_tuple_int | exact kit_tuple_bool | exact kit_tuple_list | exact kit_tuple_str
  | exact kit_bool_bool | exact kit_bool_int | exact kit_bool_tuple | exact kit_bool_list | exact kit_bool_str
  | exact kit_str_str | exact kit_str_int | exact kit_str_bool | exact kit_str_tuple | exact kit_str_list
  | exact kit_NoneType_int | exact kit_NoneType_bool | exact kit_NoneType_tuple | exact kit_NoneType_list | exact kit_NoneType_str
  | exact kit_list_list | exact kit_list_tuple | exact kit_list_int | exact kit_list_bool | exact kit_list_str
  | fail)
local macro_rules | `(tactic| walk_at "call") => `(tactic| fail)
local macro_rules | `(tactic| walk_at "s0") => `(tactic| with_reducible first
  | refine g_seq ?_ | refine g_asg ?_ | refine g_name ?_ | refine g_ifS ?_ | refine g_ret ?_ | refine g_retN ?_ | refine g_next ?_
  | refine g_par ?_ | refine g_parE ?_ | refine g_drop ?_
  | refine g_c ?_ | refine g_op ?_ | refine g_un ?_ | refine g_cb ?_ | refine g_call ?_ | refine g_nil ?_ | refine g_cons ?_ | refine g_tup ?_ | refine g_lst ?_
  | refine g_test ?_ | refine g_B ?_ | refine g_blF ?_ | refine g_and ?_ | refine g_or ?_ | refine g_not ?_ | refine g_andV ?_ | refine g_orV ?_ | refine g_notV ?_ | refine g_if ?_
  | refine iteT ?_ | refine iteF ?_
  | refine g_chain ?_ | refine g_sl ?_ | refine g_noPart ?_ | refine g_part ?_ | refine g_partI ?_ | refine g_slS ?_ ?side | refine g_M1 ?_ | refine g_M1s ?_ | refine g_starts ?_ | refine g_bm ?_ | refine g_bm0 ?_ | refine g_tyS ?_
  | refine g_Fs ?_ | refine g_JsN ?_ | refine g_JsC ?_ | refine g_JsE ?_ ?side | refine g_fmt ?_ | refine g_fmtI ?_ ?side | refine g_fmtS ?_ ?side | refine g_iList ?_ | refine g_iTup ?_ | refine g_iStr ?_ | refine g_iStrE ?_ | refine g_iRng1 ?_ | refine g_iRng1E ?_ ?side1 ?side2 | refine g_yes ?_ | refine g_ckw ?_ | refine g_dget ?_ | refine g_dictZip ?_ | refine g_gCons ?_ | refine g_gNil ?_ | refine g_revL ?_ | refine g_for ?_ | refine g_lc ?_ | refine g_addS ?_ ?side | refine g_str ?_ ?side | refine g_lenS ?_ ?side
  | refine g_rI0 ?_ | refine g_rI ?_ ?side | refine g_rU ?_ | refine g_abs ?_ | refine g_int ?_ | refine g_intB ?_ | refine g_gcd ?_ | refine g_inS ?_ | refine g_isN0 ?_ | refine g_notN0 ?_
  | fail)
local macro_rules | `(tactic| walk_at "s1") => `(tactic| first
  | ((with_reducible refine' g_var ?h ?_); (case h => exact rfl))
  | ((with_reducible refine' g_new ?h ?_); (case h => exact (by simp only [List.length_cons, List.length_nil]; decide)); intro tnew htnew)
  | ((with_reducible refine' iteDT ?h ?_); (case h => first | exact rfl | assumption))
  | ((with_reducible refine' iteNT ?h ?_); (case h => first | exact rfl | assumption))
  | ((with_reducible refine' iteDF ?h ?_); (case h => first | assumption | (intro z; cases z)))
  | ((with_reducible refine' iteNF ?h ?_); (case h => first | assumption | (intro z; cases z)))
  | ((with_reducible refine' g_eq ?_ ?h); (case h => exact rfl))
  | ((with_reducible refine' g_ne ?_ ?h); (case h => exact rfl))
  | ((with_reducible refine' g_ixT ?_ ?h ?e); (case h => walk_at "hpT"); (case e => first | exact rfl | exact atI_0 | exact atI_1))
  | ((with_reducible refine' g_ixL ?_ ?h ?e); (case h => walk_at "hpL"); (case e => first | exact rfl | exact atI_0 | exact atI_1))
  | ((with_reducible refine' g_isi_int ?_ ?h); (case h => walk_at "kit"))
  | ((with_reducible refine' g_isi_str ?_ ?h); (case h => walk_at "kit"))
  | ((with_reducible refine' g_isi_bl ?_ ?h); (case h => walk_at "kit"))
  | ((with_reducible refine' g_isi_non ?_ ?h); (case h => walk_at "kit"))
  | ((with_reducible refine' g_isi_t ?_ ?t ?h); (case t => walk_at "hpT"); (case h => walk_at "kit"))
  | ((with_reducible refine' g_isi_l ?_ ?t ?h ?l); (case l => walk_at "hpH"); (case t => walk_at "hpL"); (case h => walk_at "kit"))
  | ((with_reducible refine' g_lenT ?_ ?h); (case h => walk_at "hpT"))
  | ((with_reducible refine' g_lenL ?_ ?h); (case h => walk_at "hpL"))
  | ((with_reducible refine' g_split ?_ ?h ?side); (case h => exact rfl); intro pnew hpnew)
  | ((with_reducible refine' g_slL ?h ?_); (case h => walk_at "hpL"); intro pnew hpnew)
  | ((with_reducible refine' g_iListE ?_ ?h); (case h => walk_at "hpL"))
  | ((with_reducible refine' g_iTupE ?_ ?h); (case h => walk_at "hpT"))
  | ((with_reducible refine' g_tyL ?_ ?h); (case h => walk_at "hpL"))
  | ((with_reducible refine' g_join ?_ ?h ?side); (case h => walk_at "hpL"))
  | ((with_reducible refine' g_append ?_ ?h ?side); (case h => walk_at "hpH"))
  | ((with_reducible refine' g_all ?_ ?h); (case h => walk_at "hpL"))
  | ((with_reducible refine' g_gTup ?_ ?h ?n); (case h => walk_at "hpT"); (case n => exact rfl))
  | ((with_reducible refine' g_revLE ?h ?_); (case h => walk_at "hpL"); intro pnew hpnew)
  | ((with_reducible refine' g_isN1 ?_ ?h); (case h => first | assumption | (intro z; cases z)))
  | ((with_reducible refine' g_notN1 ?_ ?h); (case h => first | assumption | (intro z; cases z)))
  | walk_at "call"
  | ((with_reducible refine' iteBT ?h ?_); (case h => first | assumption | exact rfl))
  | ((with_reducible refine' iteBF ?h ?_); (case h => first | assumption | exact rfl))
  | fail)
local macro_rules | `(tactic| walk_at "nrm") => `(tactic| simp only [Bool.not_true, Bool.not_false, decide_eq_true_eq, decide_true, decide_false, Bool.true_and, Bool.false_and, Bool.and_true, Bool.and_false, V.int.injEq, V.bl.injEq, V.str.injEq, List.length_cons, List.length_nil, Bool.not_eq_true', decide_eq_false_iff_not, Int.not_lt, Int.not_le, reduceCtorEq, not_false_eq_true, not_true_eq_false, Decidable.not_not] at *)
local macro_rules | `(tactic| walk_at "sp") => `(tactic| ((with_reducible refine ite2 (fun c => ?_) (fun c => ?_)) <;> (try simp only [decide_eq_true_eq, Bool.not_eq_true', decide_eq_false_iff_not, V.int.injEq, V.bl.injEq, V.str.injEq, Int.not_lt, Int.not_le, reduceCtorEq, Decidable.not_not, Bool.false_eq_true, Bool.true_eq_false] at c) <;> (try (exfalso; omega))))
local macro_rules | `(tactic| walk_at "s") => `(tactic| first | walk_at "s0" | walk_at "s1" | fail)
local macro_rules | `(tactic| walk_at "go") => `(tactic| (try dsimp only [cxK, cxK']); repeat' walk_at "s")
local macro_rules | `(tactic| walk_at "gos") => `(tactic| ((try dsimp only [cxK, cxK']); repeat' (first | walk_at "s" | walk_at "sp" | fail)))

local macro_rules | `(tactic| walk_at "hpNo") => `(tactic| with_reducible first
  | assumption
  | (refine' Nm.ofPr ?hq; (case hq => assumption))
  | (refine' Nm.same (same_new (by assumption)) ?hq; (case hq => walk_at "hpNo"))
  | (refine' Nm.same (by assumption) ?hq; (case hq => walk_at "hpNo"))
  | fail)
local macro_rules | `(tactic| walk_at "hpN") => `(tactic| with_reducible first
  | walk_at "hpNo"
  | (refine' Nm.of ?hq; (case hq => walk_at "hpH"))
  | fail)
local macro_rules | `(tactic| walk_at "hpPo") => `(tactic| with_reducible first
  | assumption
  | (refine' Pr.same (same_new (by assumption)) ?hq; (case hq => walk_at "hpPo"))
  | (refine' Pr.same (by assumption) ?hq; (case hq => walk_at "hpPo"))
  | fail)
local macro_rules | `(tactic| walk_at "hpP") => `(tactic| with_reducible first
  | walk_at "hpPo"
  | (refine' Pr.of ?hq; (case hq => walk_at "hpH"))
  | fail)
local macro_rules | `(tactic| walk_at "hpDo") => `(tactic| with_reducible first
  | assumption
  | exact Dq.int _ | exact Dq.bl _ | exact Dq.str _ | exact Dq.non
  | (refine' Dq.same (same_new (by assumption)) ?hq; (case hq => walk_at "hpDo"))
  | (refine' Dq.same (by assumption) ?hq; (case hq => walk_at "hpDo"))
  | fail)
local macro_rules | `(tactic| walk_at "hpD") => `(tactic| with_reducible first
  | walk_at "hpDo"
  | fail)

local macro_rules | `(tactic| walk_at "hpM") => `(tactic| with_reducible first
  | assumption
  | (refine' mk_new ?hn ?hB; (case hn => assumption); (case hB => walk_at "hpB"))
  | (refine' mk_tup ?hn ?hB; (case hn => assumption); (case hB => walk_at "hpB"))
  | (refine' same_at (mk_upd (by assumption)) ?hq; (case hq => walk_at "hpM"))
  | (refine' same_at (show Same (delH _ _) (delH _ _) by assumption) ?hq; (case hq => walk_at "hpM"))
  | (refine' same_at (mk_mono (by assumption)) ?hq; (case hq => walk_at "hpM"))
  | fail)
local macro_rules | `(tactic| walk_at "hpSM") => `(tactic| with_reducible first
  | exact Same.refl _
  | assumption
  | (refine' Same.trans ?hq (mk_upd (by assumption)); (case hq => walk_at "hpSM"))
  | (refine' Same.trans ?hq (show Same (delH _ _) (delH _ _) by assumption); (case hq => walk_at "hpSM"))
  | (refine' Same.trans ?hq (mk_mono (by assumption)); (case hq => walk_at "hpSM"))
  | fail)
local macro_rules | `(tactic| walk_at "hpB") => `(tactic| with_reducible first
  | assumption
  | (refine' bag_upd ?hq (by assumption); (case hq => walk_at "hpB"))
  | (refine' bag_same ?hq (by assumption); (case hq => walk_at "hpB"))
  | fail)
local macro_rules | `(tactic| walk_at "hpHo") => `(tactic| with_reducible first
  | assumption
  | exact upd_same
  | (refine' same_at (same_new (by assumption)) ?hq; (case hq => walk_at "hpHo"))
  | (refine' same_at (by assumption) ?hq; (case hq => walk_at "hpHo"))
  | fail)
local macro_rules | `(tactic| walk_at "hpH") => `(tactic| with_reducible first
  | walk_at "hpHo"
  | (refine' same_at mk_same ?hq; (case hq => walk_at "hpM"))
  | fail)
local macro_rules | `(tactic| walk_at "hpNo") => `(tactic| with_reducible first
  | assumption
  | (refine' Nm.ofPr ?hq; (case hq => assumption))
  | (refine' Nm.same (same_new (by assumption)) ?hq; (case hq => walk_at "hpNo"))
  | (refine' Nm.same (by assumption) ?hq; (case hq => walk_at "hpNo"))
  | fail)
local macro_rules | `(tactic| walk_at "hpNMo") => `(tactic| with_reducible first
  | assumption
  | (refine' Nm.ofPr ?hq; (case hq => assumption))
  | (refine' Nm.same (mk_upd (by assumption)) ?hq; (case hq => walk_at "hpNMo"))
  | (refine' Nm.same (show Same (delH _ _) (delH _ _) by assumption) ?hq; (case hq => walk_at "hpNMo"))
  | (refine' Nm.same (mk_mono (by assumption)) ?hq; (case hq => walk_at "hpNMo"))
  | fail)
local macro_rules | `(tactic| walk_at "hpNM") => `(tactic| with_reducible first
  | walk_at "hpNMo"
  | (refine' Nm.of ?hq; (case hq => walk_at "hpM"))
  | fail)
local macro_rules | `(tactic| walk_at "hpN") => `(tactic| with_reducible first
  | walk_at "hpNo"
  | (refine' Nm.same mk_same ?hq; (case hq => walk_at "hpNMo"))
  | (refine' Nm.of ?hq; (case hq => walk_at "hpH"))
  | fail)
local macro_rules | `(tactic| walk_at "hpPo") => `(tactic| with_reducible first
  | assumption
  | (refine' Pr.same (same_new (by assumption)) ?hq; (case hq => walk_at "hpPo"))
  | (refine' Pr.same (by assumption) ?hq; (case hq => walk_at "hpPo"))
  | fail)
local macro_rules | `(tactic| walk_at "hpPMo") => `(tactic| with_reducible first
  | assumption
  | (refine' Pr.same (mk_upd (by assumption)) ?hq; (case hq => walk_at "hpPMo"))
  | (refine' Pr.same (show Same (delH _ _) (delH _ _) by assumption) ?hq; (case hq => walk_at "hpPMo"))
  | (refine' Pr.same (mk_mono (by assumption)) ?hq; (case hq => walk_at "hpPMo"))
  | fail)
local macro_rules | `(tactic| walk_at "hpPM") => `(tactic| with_reducible first
  | walk_at "hpPMo"
  | (refine' Pr.of ?hq; (case hq => walk_at "hpM"))
  | fail)
local macro_rules | `(tactic| walk_at "hpP") => `(tactic| with_reducible first
  | walk_at "hpPo"
  | (refine' Pr.same mk_same ?hq; (case hq => walk_at "hpPMo"))
  | (refine' Pr.of ?hq; (case hq => walk_at "hpH"))
  | fail)
local macro_rules | `(tactic| walk_at "hpDo") => `(tactic| with_reducible first
  | assumption
  | exact Dq.int _ | exact Dq.bl _ | exact Dq.str _ | exact Dq.non
  | (refine' Dq.same (same_new (by assumption)) ?hq; (case hq => walk_at "hpDo"))
  | (refine' Dq.same (by assumption) ?hq; (case hq => walk_at "hpDo"))
  | fail)
local macro_rules | `(tactic| walk_at "hpDMo") => `(tactic| with_reducible first
  | assumption
  | exact Dq.int _ | exact Dq.bl _ | exact Dq.str _ | exact Dq.non
  | (refine' Dq.same (mk_upd (by assumption)) ?hq; (case hq => walk_at "hpDMo"))
  | (refine' Dq.same (show Same (delH _ _) (delH _ _) by assumption) ?hq; (case hq => walk_at "hpDMo"))
  | (refine' Dq.same (mk_mono (by assumption)) ?hq; (case hq => walk_at "hpDMo"))
  | fail)
local macro_rules | `(tactic| walk_at "hpDM") => `(tactic| with_reducible first
  | walk_at "hpDMo"
  | fail)
local macro_rules | `(tactic| walk_at "hpD") => `(tactic| with_reducible first
  | walk_at "hpDo"
  | (refine' Dq.same mk_same ?hq; (case hq => walk_at "hpDMo"))
  | fail)
local macro_rules | `(tactic| walk_at "call") => `(tactic| first
  | ((with_reducible refine' sp_draw ?_ ?h ?side1 ?side2); (case h => walk_at "hpB"); intro idraw Hd' hi0 hi1 sd' bd')
  | fail)

local macro_rules | `(tactic| walk_at "call") => `(tactic| first
  | ((with_reducible refine' sp_draw ?_ ?h ?side1 ?side2 ?side3); (case h => walk_at "hpB"); intro idraw Hd' hi0 hi1 sd' bd')
  | ((with_reducible refine' sp_number ?_ ?h ?side1); (case h => walk_at "hpB"); intro tnu qnu Hnu hnu hsm snu bnu)
  | fail)
section
variable {P : Program} {w : World} {K : Fg} {mg : Str → Option Value} {base : Heap} {f f1 f2 f3 : Addr} {fd : FuncData}
theorem ok_l_spots (F : Fun K "_law_spots" "_law_spots" s_l_spots f fd) (T : Blt mg) (D_l_draw : Df P w K mg base 1 "_law_draw" f1 ["_law_bag_here", "_law_many_y"] spDraw) (D_l_number : Df P w K mg base 2 "_law_number" f3 ["_law_bag_here"] spNumber) : FnOk P w K mg base CX0 3 f fd ["_law_bag_here", "_law_m"] spSpots := by
  obtain ⟨_, G_l_draw, B_l_draw⟩ := D_l_draw.ok
  obtain ⟨_, G_l_number, B_l_number⟩ := D_l_number.ok
  refine F.ok sc_l_spots (fun vs H Q E h => ?_) (fun cdv A outer s H vs Q E hr h => ?_)
  · obtain ⟨N, b, c, m, rfl, _⟩ := h
    rfl
  · obtain ⟨N, b, c, m, rfl, B, hN, hm, k⟩ := h
    refine ⟨_, (pss_cons (ps_set (i := 2) sc_l_spots.nd rfl (.inl rfl) (pe_lst pa_nil))
      (pss_cons (ps_for PassesOwn.never rfl (pi_range1 (by rfl) T.n_range (pa_cons (pv 1) pa_nil)) (pg_name (i := 3) sc_l_spots.nd rfl (.inl rfl))
      (pss_one (ps_if (PW.pt (pw_and (pt_cmpR op_gt (pv 3) pe_int (nomark _)) (pw_and1 (pt_cmpR op_eq (pe_call G_l_draw (hr.mono (by decide)) (by rfl) D_l_draw.g D_l_draw.kp B_l_draw .nil pass0 (pa_cons (pv 0) (pa_cons pe_int pa_nil))) pe_int (nomark _)))))
      (pss_one (ps_expr (pe_bm PySem.F.plainAttrs_list PySem.F.slot_list_append PySem.F.type_list_append mt_append (pv 2) (pa_cons (pe_ix (ix_seqK K) (pv 2) (pe_call G_l_draw (hr.mono (by decide)) (by rfl) D_l_draw.g D_l_draw.kp B_l_draw .nil pass0 (pa_cons (pv 0) (pa_cons (pv 3) pa_nil))) (fun _ _ => rfl)) pa_nil)))) (pss_one (ps_expr (pe_bm PySem.F.plainAttrs_list PySem.F.slot_list_append PySem.F.type_list_append mt_append (pv 2) (pa_cons (pe_tup (pa_cons (pe_call G_l_number (hr.mono (by decide)) (by rfl) D_l_number.g D_l_number.kp B_l_number .nil pass0 (pa_cons (pv 0) pa_nil)) (pa_cons (pe_call G_l_number (hr.mono (by decide)) (by rfl) D_l_number.g D_l_number.kp B_l_number .nil pass0 (pa_cons (pv 0) pa_nil)) pa_nil))) pa_nil)))))))
      (pss_one (ps_ret (pv 2))))), ?_⟩
    walk_at "go"
    any_goals omega
    rename_i l nl
    have s0 := same_new (o := .lst []) nl
    have lb : l ≠ b := (B.free nl).1
    have lc : l ≠ c := (B.free nl).2
    have l0 : delH H b l = none := mk_none nl
    refine for_range (lo := 0) (n := m) (fun i σ H' => ∃ (v3 : Option V) (ys : List V) (ss : List Sp2), σ = [some (.ref b), some (.int (m : Int)), some (.ref l), v3] ∧ Same (delH H b) (delH H' b) ∧ Bag (N - i * 8) H' b c ∧ H' l = some (.lst ys) ∧ DqAll H' ys (ss.map spD) ∧ (∀ s ∈ ss, SmS s) ∧ ss.length = i)
      ⟨none, [], [], rfl, mk_mono s0, by simpa using B.same s0, upd_same, .nil, (fun s h => by cases h), rfl⟩ (fun i σ H5 hi h => ?_) (fun σ H5 h => ?_)
    · obtain ⟨v3, ys, ss, rfl, s5, B5, hL, dy, sm, ls⟩ := h
      have ly := dy.length
      rw [List.length_map] at ly
      -- the end of a turn
      have fin : ∀ (v : V) (s : Sp2) (H9 : Hp), Same (delH H5 b) (delH H9 b) → Bag (N - i * 8 - 8) H9 b c → Dq H9 v (spD s) → SmS s → ∃ (v3 : Option V) (ys' : List V) (ss' : List Sp2), [some (V.ref b), some (.int (m : Int)), some (.ref l), some (.int (0 + (i : Int)))] = [some (.ref b), some (.int (m : Int)), some (.ref l), v3] ∧ Same (delH H b) (delH (upd H9 l (.lst (ys ++ [v]))) b) ∧ Bag (N - (i + 1) * 8) (upd H9 l (.lst (ys ++ [v]))) b c ∧ upd H9 l (.lst (ys ++ [v])) l = some (.lst ys') ∧ DqAll (upd H9 l (.lst (ys ++ [v]))) ys' (ss'.map spD) ∧ (∀ s ∈ ss', SmS s) ∧ ss'.length = i + 1 := fun v s H9 s9 B9 q9 m9 => by
        have hL9 : H9 l = some (.lst ys) := mk_same _ _ (s9 _ _ (mk_at hL lb))
        have dy9 := dy.bag (sps_noL _) B5 s9
        refine ⟨_, _, ss ++ [s], rfl, fun a o e => ?_, (bag_put B9 lb lc).le (by omega), upd_same, ?_, fun x hx => ?_, by rw [List.length_append, ls]; rfl⟩
        · have ne : a ≠ l := ne_of_none e l0
          have nb := mk_ne e
          rw [delH_ne nb, upd_ne ne]
          have := (s5.trans s9) _ _ e
          rw [delH_ne nb] at this
          exact this
        · refine DqAll.setL ?_ (sps_noL _) hL9
          rw [List.map_append]
          exact DqAll.app dy9 (.cons q9 .nil)
        · rcases List.mem_append.mp hx with hx | hx
          · exact sm x hx
          · rw [List.mem_singleton.mp hx]
            exact m9
      have szy : ys.length < sizeLine := Nat.lt_of_lt_of_le (show ys.length < 1000 by omega) (by rw [sizeLine_eq]; decide)
      by_cases c0 : (0 : Int) < 0 + (i : Int)
      · walk_at "gos"
        any_goals omega
        · rename_i i1 H6 a0 a1 s6 B6 e0
          have hL6 : H6 l = some (.lst ys) := mk_same _ _ (s6 _ _ (mk_at hL lb))
          refine g_tyL ?_ (SqL.of hL6)
          walk_at "go"
          any_goals omega
          rename_i i2 H7 b0 b1 s7 B7
          have s67 := s6.trans s7
          have hL7 : H7 l = some (.lst ys) := mk_same _ _ (s67 _ _ (mk_at hL lb))
          obtain ⟨x, hx⟩ : ∃ x, ys[i2.toNat]? = some x := ⟨_, List.getElem?_eq_getElem (by omega)⟩
          have e2 : i2 = ((i2.toNat : Nat) : Int) := by omega
          refine g_ixL ?_ (SqL.of hL7) (by rw [e2]; exact atI_nat hx)
          obtain ⟨d, hd, qd⟩ := dy.at hx
          rw [List.getElem?_map] at hd
          obtain ⟨s, hs, rfl⟩ := Option.map_eq_some_iff.mp hd
          refine g_nil (g_append ?_ hL7 szy)
          exact fin x s H7 s67 (B7.le (by omega)) (qd.bag (sp_noL s) B5 s67) (sm s (List.mem_of_getElem? hs))
        · rename_i i1 H6 a0 a1 s6 B6 e0
          have hL6 : H6 l = some (.lst ys) := mk_same _ _ (s6 _ _ (mk_at hL lb))
          refine g_tyL ?_ (SqL.of hL6)
          walk_at "go"
          any_goals omega
          rename_i t1 q1 H7 h1 z1 s7 B7 t2 q2 H8 h2 z2 s8 B8 t nt
          have s9 : Same (delH H8 b) (delH (upd H8 t (.tup [.ref t1, .ref t2])) b) := mk_upd nt
          have h1' := mk_same _ _ ((s8.trans s9) _ _ h1)
          have h2' := mk_same _ _ (s9 _ _ h2)
          have hL9 : upd H8 t (.tup [.ref t1, .ref t2]) l = some (.lst ys) := mk_same _ _ (((s6.trans s7).trans (s8.trans s9)) _ _ (mk_at hL lb))
          refine g_append ?_ hL9 szy
          exact fin (.ref t) (q1, q2) _ ((s6.trans s7).trans (s8.trans s9)) ((bag_upd B8 nt).le (by omega)) (.tup upd_same (.cons (Pr.dq ⟨t1, rfl, h1'⟩) (.cons (Pr.dq ⟨t2, rfl, h2'⟩) .nil))) ⟨z1, z2⟩
      · have hL6 : H5 l = some (.lst ys) := hL
        walk_at "go"
        any_goals omega
        rename_i t1 q1 H7 h1 z1 s7 B7 t2 q2 H8 h2 z2 s8 B8 t nt
        have s9 : Same (delH H8 b) (delH (upd H8 t (.tup [.ref t1, .ref t2])) b) := mk_upd nt
        have h1' := mk_same _ _ ((s8.trans s9) _ _ h1)
        have h2' := mk_same _ _ (s9 _ _ h2)
        have hL9 : upd H8 t (.tup [.ref t1, .ref t2]) l = some (.lst ys) := mk_same _ _ ((s7.trans (s8.trans s9)) _ _ (mk_at hL lb))
        refine g_append ?_ hL9 szy
        exact fin (.ref t) (q1, q2) _ (s7.trans (s8.trans s9)) ((bag_upd B8 nt).le (by omega)) (.tup upd_same (.cons (Pr.dq ⟨t1, rfl, h1'⟩) (.cons (Pr.dq ⟨t2, rfl, h2'⟩) .nil))) ⟨z1, z2⟩
    · obtain ⟨v3, ys, ss, rfl, s5, B5, hL, dy, sm, ls⟩ := h
      walk_at "go"
      exact k l ys ss H5 s5 (B5.le (by omega)) lb lc l0 hL dy sm ls
end
end Ko


namespace Ko
open PySem L2 PySem.Spec PyProof.Rows Xm
def spHeights : Sp := fun vs H Q _ => ∃ (N : Nat) (b c : Addr), vs = [.ref b] ∧ Bag N H b c ∧ 8 ≤ N ∧ ∀ (t : Addr) (p q : Pq) (H' : Hp), Same (delH H b) (delH H' b) → Bag (N - 8) H' b c → Dq (delH H' b) (.ref t) (.tup [.pq p, .pq q]) → Small p → Small q → Q (.ref t) H'
theorem lt4400 {n : Nat} (h : n ≤ 1000) : n < 2 ^ 4400 := lt44 (Nat.lt_of_le_of_lt h (by decide))
theorem Small.sz {q : Pq} (h : Small q) : Sz 4400 q := ⟨lt4400 h.2.1, lt4400 (by have := h.1.1; have := h.2.2; omega)⟩
theorem iteT' {α : Prop} {b : Bool} {β : Prop} (h : b = true) (q : α) : if b = true then α else β := by rw [if_pos h]; exact q
theorem iteF' {α : Prop} {b : Bool} {β : Prop} (h : b = false) (q : β) : if b = true then α else β := by rw [if_neg (by rw [h]; exact Bool.false_ne_true)]; exact q

local macro_rules | `(tactic| walk_at "hpS") => `(tactic| with_reducible first
  | exact Same.refl _
  | assumption
  | (refine' Same.trans ?hq (same_new (by assumption)); (case hq => walk_at "hpS"))
  | (refine' Same.trans ?hq (by assumption); (case hq => walk_at "hpS"))
  | fail)
local macro_rules | `(tactic| walk_at "hpH") => `(tactic| with_reducible first
  | assumption
  | exact upd_same
  | (refine' same_at (same_new (by assumption)) ?hq; (case hq => walk_at "hpH"))
  | (refine' same_at (by assumption) ?hq; (case hq => walk_at "hpH"))
  | fail)
local macro_rules | `(tactic| walk_at "hpTo") => `(tactic| with_reducible first
  | assumption
  | (refine' sq_t (same_new (by assumption)) ?hq; (case hq => walk_at "hpTo"))
  | (refine' sq_t (by assumption) ?hq; (case hq => walk_at "hpTo"))
  | fail)
local macro_rules | `(tactic| walk_at "hpT") => `(tactic| with_reducible first
  | (refine' SqT.of ?hq; (case hq => walk_at "hpH"))
  | walk_at "hpTo"
  | fail)
local macro_rules | `(tactic| walk_at "hpLo") => `(tactic| with_reducible first
  | assumption
  | (refine' sq_l (same_new (by assumption)) ?hq; (case hq => walk_at "hpLo"))
  | (refine' sq_l (by assumption) ?hq; (case hq => walk_at "hpLo"))
  | fail)
local macro_rules | `(tactic| walk_at "hpL") => `(tactic| with_reducible first
  | (refine' SqL.of ?hq; (case hq => walk_at "hpH"))
  | walk_at "hpLo"
  | fail)
local macro_rules | `(tactic| walk_at "kit") => `(tactic| with_reducible first
  | exact kit_int_bool | exact kit_int_int | exact kit_int_tuple | exact kit_int_list | exact kit_int_str
  | exact kit_tuple_tuple | exact kit_tuple_int | exact kit_tuple_bool | exact kit_tuple_list | exact kit_tuple_str
  | exact kit_bool_bool | exact kit_bool_int | exact kit_bool_tuple | exact kit_bool_list | exact kit_bool_str
  | exact kit_str_str | exact kit_str_int | exact kit_str_bool | exact kit_str_tuple | exact kit_str_list
  | exact kit_NoneType_int | exact kit_NoneType_bool | exact kit_NoneType_tuple | exact kit_NoneType_list | exact kit_NoneType_str
  | exact kit_list_list | exact kit_list_tuple | exact kit_list_int | exact kit_list_bool | exact kit_list_str
  | fail)
local macro_rules | `(tactic| walk_at "call") => `(tactic| fail)
local macro_rules | `(tactic| walk_at "s0") => `(tactic| with_reducible first
  | refine g_seq ?_ | refine g_asg ?_ | refine g_name ?_ | refine g_ifS ?_ | refine g_ret ?_ | refine g_retN ?_ | refine g_next ?_
  | refine g_par ?_ | refine g_parE ?_ | refine g_drop ?_
  | refine g_c ?_ | refine g_op ?_ | refine g_un ?_ | refine g_cb ?_ | refine g_call ?_ | refine g_nil ?_ | refine g_cons ?_ | refine g_tup ?_ | refine g_lst ?_
  | refine g_test ?_ | refine g_B ?_ | refine g_blF ?_ | refine g_and ?_ | refine g_or ?_ | refine g_not ?_ | refine g_andV ?_ | refine g_orV ?_ | refine g_notV ?_ | refine g_if ?_
  | refine iteT ?_ | refine iteF ?_
  | refine g_chain ?_ | refine g_sl ?_ | refine g_noPart ?_ | refine g_part ?_ | refine g_partI ?_ | refine g_slS ?_ ?side | refine g_M1 ?_ | refine g_M1s ?_ | refine g_starts ?_ | refine g_bm ?_ | refine g_bm0 ?_ | refine g_tyS ?_
  | refine g_Fs ?_ | refine g_JsN ?_ | refine g_JsC ?_ | refine g_JsE ?_ ?side | refine g_fmt ?_ | refine g_fmtI ?_ ?side | refine g_fmtS ?_ ?side | refine g_iList ?_ | refine g_iTup ?_ | refine g_iStr ?_ | refine g_iStrE ?_ | refine g_iRng1 ?_ | refine g_iRng1E ?_ ?side1 ?side2 | refine g_yes ?_ | refine g_ckw ?_ | refine g_dget ?_ | refine g_dictZip ?_ | refine g_gCons ?_ | refine g_gNil ?_ | refine g_revL ?_ | refine g_for ?_ | refine g_lc ?_ | refine g_addS ?_ ?side | refine g_str ?_ ?side | refine g_lenS ?_ ?side
  | refine g_rI0 ?_ | refine g_rI ?_ ?side | refine g_rU ?_ | refine g_abs ?_ | refine g_int ?_ | refine g_intB ?_ | refine g_gcd ?_ | refine g_inS ?_ | refine g_isN0 ?_ | refine g_notN0 ?_
  | fail)
local macro_rules | `(tactic| walk_at "s1") => `(tactic| first
  | ((with_reducible refine' g_var ?h ?_); (case h => exact rfl))
  | ((with_reducible refine' g_new ?h ?_); (case h => exact (by simp only [List.length_cons, List.length_nil]; decide)); intro tnew htnew)
  | ((with_reducible refine' iteDT ?h ?_); (case h => first | exact rfl | assumption))
  | ((with_reducible refine' iteNT ?h ?_); (case h => first | exact rfl | assumption))
  | ((with_reducible refine' iteDF ?h ?_); (case h => first | assumption | (intro z; cases z)))
  | ((with_reducible refine' iteNF ?h ?_); (case h => first | assumption | (intro z; cases z)))
  | ((with_reducible refine' g_eq ?_ ?h); (case h => exact rfl))
  | ((with_reducible refine' g_ne ?_ ?h); (case h => exact rfl))
  | ((with_reducible refine' g_ixT ?_ ?h ?e); (case h => walk_at "hpT"); (case e => first | exact rfl | exact atI_0 | exact atI_1))
  | ((with_reducible refine' g_ixL ?_ ?h ?e); (case h => walk_at "hpL"); (case e => first | exact rfl | exact atI_0 | exact atI_1))
  | ((with_reducible refine' g_isi_int ?_ ?h); (case h => walk_at "kit"))
  | ((with_reducible refine' g_isi_str ?_ ?h); (case h => walk_at "kit"))
  | ((with_reducible refine' g_isi_bl ?_ ?h); (case h => walk_at "kit"))
  | ((with_reducible refine' g_isi_non ?_ ?h); (case h => walk_at "kit"))
  | ((with_reducible refine' g_isi_t ?_ ?t ?h); (case t => walk_at "hpT"); (case h => walk_at "kit"))
  | ((with_reducible refine' g_isi_l ?_ ?t ?h ?l); (case l => walk_at "hpH"); (case t => walk_at "hpL"); (case h => walk_at "kit"))
  | ((with_reducible refine' g_lenT ?_ ?h); (case h => walk_at "hpT"))
  | ((with_reducible refine' g_lenL ?_ ?h); (case h => walk_at "hpL"))
  | ((with_reducible refine' g_split ?_ ?h ?side); (case h => exact rfl); intro pnew hpnew)
  | ((with_reducible refine' g_slL ?h ?_); (case h => walk_at "hpL"); intro pnew hpnew)
  | ((with_reducible refine' g_iListE ?_ ?h); (case h => walk_at "hpL"))
  | ((with_reducible refine' g_iTupE ?_ ?h); (case h => walk_at "hpT"))
  | ((with_reducible refine' g_tyL ?_ ?h); (case h => walk_at "hpL"))
  | ((with_reducible refine' g_join ?_ ?h ?side); (case h => walk_at "hpL"))
  | ((with_reducible refine' g_append ?_ ?h ?side); (case h => walk_at "hpH"))
  | ((with_reducible refine' g_all ?_ ?h); (case h => walk_at "hpL"))
  | ((with_reducible refine' g_gTup ?_ ?h ?n); (case h => walk_at "hpT"); (case n => exact rfl))
  | ((with_reducible refine' g_revLE ?h ?_); (case h => walk_at "hpL"); intro pnew hpnew)
  | ((with_reducible refine' g_isN1 ?_ ?h); (case h => first | assumption | (intro z; cases z)))
  | ((with_reducible refine' g_notN1 ?_ ?h); (case h => first | assumption | (intro z; cases z)))
  | walk_at "call"
  | ((with_reducible refine' iteBT ?h ?_); (case h => first | assumption | exact rfl))
  | ((with_reducible refine' iteBF ?h ?_); (case h => first | assumption | exact rfl))
  | fail)
local macro_rules | `(tactic| walk_at "nrm") => `(tactic| simp only [Bool.not_true, Bool.not_false, decide_eq_true_eq, decide_true, decide_false, Bool.true_and, Bool.false_and, Bool.and_true, Bool.and_false, V.int.injEq, V.bl.injEq, V.str.injEq, List.length_cons, List.length_nil, Bool.not_eq_true', decide_eq_false_iff_not, Int.not_lt, Int.not_le, reduceCtorEq, not_false_eq_true, not_true_eq_false, Decidable.not_not] at *)
local macro_rules | `(tactic| walk_at "sp") => `(tactic| ((with_reducible refine ite2 (fun c => ?_) (fun c => ?_)) <;> (try simp only [decide_eq_true_eq, Bool.not_eq_true', decide_eq_false_iff_not, V.int.injEq, V.bl.injEq, V.str.injEq, Int.not_lt, Int.not_le, reduceCtorEq, Decidable.not_not, Bool.false_eq_true, Bool.true_eq_false] at c) <;> (try (exfalso; omega))))
local macro_rules | `(tactic| walk_at "s") => `(tactic| first | walk_at "s0" | walk_at "s1" | fail)
local macro_rules | `(tactic| walk_at "go") => `(tactic| (try dsimp only [cxK, cxK']); repeat' walk_at "s")
local macro_rules | `(tactic| walk_at "gos") => `(tactic| ((try dsimp only [cxK, cxK']); repeat' (first | walk_at "s" | walk_at "sp" | fail)))

local macro_rules | `(tactic| walk_at "hpNo") => `(tactic| with_reducible first
  | assumption
  | (refine' Nm.ofPr ?hq; (case hq => assumption))
  | (refine' Nm.same (same_new (by assumption)) ?hq; (case hq => walk_at "hpNo"))
  | (refine' Nm.same (by assumption) ?hq; (case hq => walk_at "hpNo"))
  | fail)
local macro_rules | `(tactic| walk_at "hpN") => `(tactic| with_reducible first
  | walk_at "hpNo"
  | (refine' Nm.of ?hq; (case hq => walk_at "hpH"))
  | fail)
local macro_rules | `(tactic| walk_at "hpPo") => `(tactic| with_reducible first
  | assumption
  | (refine' Pr.same (same_new (by assumption)) ?hq; (case hq => walk_at "hpPo"))
  | (refine' Pr.same (by assumption) ?hq; (case hq => walk_at "hpPo"))
  | fail)
local macro_rules | `(tactic| walk_at "hpP") => `(tactic| with_reducible first
  | walk_at "hpPo"
  | (refine' Pr.of ?hq; (case hq => walk_at "hpH"))
  | fail)
local macro_rules | `(tactic| walk_at "hpDo") => `(tactic| with_reducible first
  | assumption
  | exact Dq.int _ | exact Dq.bl _ | exact Dq.str _ | exact Dq.non
  | (refine' Dq.same (same_new (by assumption)) ?hq; (case hq => walk_at "hpDo"))
  | (refine' Dq.same (by assumption) ?hq; (case hq => walk_at "hpDo"))
  | fail)
local macro_rules | `(tactic| walk_at "hpD") => `(tactic| with_reducible first
  | walk_at "hpDo"
  | fail)

local macro_rules | `(tactic| walk_at "hpM") => `(tactic| with_reducible first
  | assumption
  | (refine' mk_new ?hn ?hB; (case hn => assumption); (case hB => walk_at "hpB"))
  | (refine' mk_tup ?hn ?hB; (case hn => assumption); (case hB => walk_at "hpB"))
  | (refine' same_at (mk_upd (by assumption)) ?hq; (case hq => walk_at "hpM"))
  | (refine' same_at (show Same (delH _ _) (delH _ _) by assumption) ?hq; (case hq => walk_at "hpM"))
  | (refine' same_at (mk_mono (by assumption)) ?hq; (case hq => walk_at "hpM"))
  | fail)
local macro_rules | `(tactic| walk_at "hpSM") => `(tactic| with_reducible first
  | exact Same.refl _
  | assumption
  | (refine' Same.trans ?hq (mk_upd (by assumption)); (case hq => walk_at "hpSM"))
  | (refine' Same.trans ?hq (show Same (delH _ _) (delH _ _) by assumption); (case hq => walk_at "hpSM"))
  | (refine' Same.trans ?hq (mk_mono (by assumption)); (case hq => walk_at "hpSM"))
  | fail)
local macro_rules | `(tactic| walk_at "hpB") => `(tactic| with_reducible first
  | assumption
  | (refine' bag_upd ?hq (by assumption); (case hq => walk_at "hpB"))
  | (refine' bag_same ?hq (by assumption); (case hq => walk_at "hpB"))
  | fail)
local macro_rules | `(tactic| walk_at "hpHo") => `(tactic| with_reducible first
  | assumption
  | exact upd_same
  | (refine' same_at (same_new (by assumption)) ?hq; (case hq => walk_at "hpHo"))
  | (refine' same_at (by assumption) ?hq; (case hq => walk_at "hpHo"))
  | fail)
local macro_rules | `(tactic| walk_at "hpH") => `(tactic| with_reducible first
  | walk_at "hpHo"
  | (refine' same_at mk_same ?hq; (case hq => walk_at "hpM"))
  | fail)
local macro_rules | `(tactic| walk_at "hpNo") => `(tactic| with_reducible first
  | assumption
  | (refine' Nm.ofPr ?hq; (case hq => assumption))
  | (refine' Nm.same (same_new (by assumption)) ?hq; (case hq => walk_at "hpNo"))
  | (refine' Nm.same (by assumption) ?hq; (case hq => walk_at "hpNo"))
  | fail)
local macro_rules | `(tactic| walk_at "hpNMo") => `(tactic| with_reducible first
  | assumption
  | (refine' Nm.ofPr ?hq; (case hq => assumption))
  | (refine' Nm.same (mk_upd (by assumption)) ?hq; (case hq => walk_at "hpNMo"))
  | (refine' Nm.same (show Same (delH _ _) (delH _ _) by assumption) ?hq; (case hq => walk_at "hpNMo"))
  | (refine' Nm.same (mk_mono (by assumption)) ?hq; (case hq => walk_at "hpNMo"))
  | fail)
local macro_rules | `(tactic| walk_at "hpNM") => `(tactic| with_reducible first
  | walk_at "hpNMo"
  | (refine' Nm.of ?hq; (case hq => walk_at "hpM"))
  | fail)
local macro_rules | `(tactic| walk_at "hpN") => `(tactic| with_reducible first
  | walk_at "hpNo"
  | (refine' Nm.same mk_same ?hq; (case hq => walk_at "hpNMo"))
  | (refine' Nm.of ?hq; (case hq => walk_at "hpH"))
  | fail)
local macro_rules | `(tactic| walk_at "hpPo") => `(tactic| with_reducible first
  | assumption
  | (refine' Pr.same (same_new (by assumption)) ?hq; (case hq => walk_at "hpPo"))
  | (refine' Pr.same (by assumption) ?hq; (case hq => walk_at "hpPo"))
  | fail)
local macro_rules | `(tactic| walk_at "hpPMo") => `(tactic| with_reducible first
  | assumption
  | (refine' Pr.same (mk_upd (by assumption)) ?hq; (case hq => walk_at "hpPMo"))
  | (refine' Pr.same (show Same (delH _ _) (delH _ _) by assumption) ?hq; (case hq => walk_at "hpPMo"))
  | (refine' Pr.same (mk_mono (by assumption)) ?hq; (case hq => walk_at "hpPMo"))
  | fail)
local macro_rules | `(tactic| walk_at "hpPM") => `(tactic| with_reducible first
  | walk_at "hpPMo"
  | (refine' Pr.of ?hq; (case hq => walk_at "hpM"))
  | fail)
local macro_rules | `(tactic| walk_at "hpP") => `(tactic| with_reducible first
  | walk_at "hpPo"
  | (refine' Pr.same mk_same ?hq; (case hq => walk_at "hpPMo"))
  | (refine' Pr.of ?hq; (case hq => walk_at "hpH"))
  | fail)
local macro_rules | `(tactic| walk_at "hpDo") => `(tactic| with_reducible first
  | assumption
  | exact Dq.int _ | exact Dq.bl _ | exact Dq.str _ | exact Dq.non
  | (refine' Dq.same (same_new (by assumption)) ?hq; (case hq => walk_at "hpDo"))
  | (refine' Dq.same (by assumption) ?hq; (case hq => walk_at "hpDo"))
  | fail)
local macro_rules | `(tactic| walk_at "hpDMo") => `(tactic| with_reducible first
  | assumption
  | exact Dq.int _ | exact Dq.bl _ | exact Dq.str _ | exact Dq.non
  | (refine' Dq.same (mk_upd (by assumption)) ?hq; (case hq => walk_at "hpDMo"))
  | (refine' Dq.same (show Same (delH _ _) (delH _ _) by assumption) ?hq; (case hq => walk_at "hpDMo"))
  | (refine' Dq.same (mk_mono (by assumption)) ?hq; (case hq => walk_at "hpDMo"))
  | fail)
local macro_rules | `(tactic| walk_at "hpDM") => `(tactic| with_reducible first
  | walk_at "hpDMo"
  | fail)
local macro_rules | `(tactic| walk_at "hpD") => `(tactic| with_reducible first
  | walk_at "hpDo"
  | (refine' Dq.same mk_same ?hq; (case hq => walk_at "hpDMo"))
  | fail)
local macro_rules | `(tactic| walk_at "call") => `(tactic| first
  | ((with_reducible refine' sp_draw ?_ ?h ?side1 ?side2); (case h => walk_at "hpB"); intro idraw Hd' hi0 hi1 sd' bd')
  | fail)

local macro_rules | `(tactic| walk_at "call") => `(tactic| first
  | ((with_reducible refine' sp_draw ?_ ?h ?side1 ?side2 ?side3); (case h => walk_at "hpB"); intro idraw Hd' hi0 hi1 sd' bd')
  | ((with_reducible refine' sp_number ?_ ?h ?side1); (case h => walk_at "hpB"); intro tnu qnu Hnu hnu hsm snu bnu)
  | fail)
section
variable {P : Program} {w : World} {K : Fg} {mg : Str → Option Value} {base : Heap} {f f1 f2 f3 : Addr} {fd : FuncData}
theorem ok_l_heights (F : Fun K "_law_heights" "_law_heights" s_l_heights f fd) (T : Blt mg) (D_l_draw : Df P w K mg base 1 "_law_draw" f1 ["_law_bag_here", "_law_many_y"] spDraw) (D_l_number : Df P w K mg base 2 "_law_number" f3 ["_law_bag_here"] spNumber) (D_l_lt : Df P w K mg base 1 "_law_lt" f2 ["_law_p", "_law_q"] spBelow) : FnOk P w K mg base CX0 3 f fd ["_law_bag_here"] spHeights := by
  obtain ⟨_, G_l_draw, B_l_draw⟩ := D_l_draw.ok
  obtain ⟨_, G_l_number, B_l_number⟩ := D_l_number.ok
  obtain ⟨_, G_l_lt, B_l_lt⟩ := D_l_lt.ok
  refine F.ok sc_l_heights (fun vs H Q E h => ?_) (fun cdv A outer s H vs Q E hr h => ?_)
  · obtain ⟨N, b, c, rfl, _⟩ := h
    rfl
  · obtain ⟨N, b, c, rfl, B, hN, k⟩ := h
    refine ⟨_, (pss_cons (ps_par (i := 1) (j := 2) rfl sc_l_heights.nd rfl rfl (by decide) rfl rfl (pa_cons (pe_call G_l_number (hr.mono (by decide)) (by rfl) D_l_number.g D_l_number.kp B_l_number .nil pass0 (pa_cons (pv 0) pa_nil)) (pa_cons (pe_call G_l_number (hr.mono (by decide)) (by rfl) D_l_number.g D_l_number.kp B_l_number .nil pass0 (pa_cons (pv 0) pa_nil)) pa_nil)) rfl)
      (pss_cons (ps_if (PW.pt (pw_and (pt_cmpR op_gt (pe_call G_l_draw (hr.mono (by decide)) (by rfl) D_l_draw.g D_l_draw.kp B_l_draw .nil pass0 (pa_cons (pv 0) (pa_cons pe_int pa_nil))) pe_int (nomark _)) (pw_and1 (pt_val (pe_call G_l_lt (hr.mono (by decide)) (by rfl) D_l_lt.g D_l_lt.kp B_l_lt .nil pass0 (pa_cons (pv 2) (pa_cons (pv 1) pa_nil)))))))
      (pss_one (ps_ret (pe_tup (pa_cons (pv 2) (pa_cons (pv 1) pa_nil))))) pss_nil)
      (pss_one (ps_ret (pe_tup (pa_cons (pv 1) (pa_cons (pv 2) pa_nil))))))), ?_⟩
    repeat (first | (fail_if_success (with_reducible refine g_ifS ?_)); walk_at "s")
    any_goals omega
    rename_i t1 p H1 h1 z1 s1 B1 t2 q H2 h2 z2 s2 B2
    have fin : ∀ (t ta tb : Addr) (p q : Pq) (H3 : Hp), Same (delH H2 b) (delH H3 b) → Bag (N - 7) H3 b c → H3 t = none → delH H3 b ta = some (.tup [.int p.1, .int p.2]) → delH H3 b tb = some (.tup [.int q.1, .int q.2]) → Small p → Small q → Q (.ref t) (upd H3 t (.tup [.ref ta, .ref tb])) := fun t ta tb p q H3 s3 B3 nt ha hb za zb => by
      refine k t p q _ ((s1.trans s2).trans (s3.trans (mk_upd nt))) ((bag_upd B3 nt).le (by omega)) (.tup ?_ (.cons (Pr.dq ⟨ta, rfl, mk_upd nt _ _ ha⟩) (.cons (Pr.dq ⟨tb, rfl, mk_upd nt _ _ hb⟩) .nil))) za zb
      rw [delH_ne (B3.free nt).1]
      exact upd_same
    have h1' := s2 _ _ h1
    walk_at "go"
    any_goals omega
    rename_i i H3 i0 i1 s3 B3
    by_cases ci : 0 < i
    · refine iteT' (decide_eq_true ci) ?_
      walk_at "go"
      refine sp_below ⟨t2, rfl, mk_same _ _ (s3 _ _ h2)⟩ ⟨t1, rfl, mk_same _ _ (s3 _ _ h1')⟩ z2.sz z1.sz ?_
      cases under q p
      · walk_at "go"
        rename_i t nt
        exact fin _ _ _ _ _ _ s3 (B3.le (by omega)) nt (s3 _ _ h1') (s3 _ _ h2) z1 z2
      · walk_at "go"
        rename_i t nt
        exact fin _ _ _ _ _ _ s3 (B3.le (by omega)) nt (s3 _ _ h2) (s3 _ _ h1') z2 z1
    · refine iteF' (decide_eq_false ci) ?_
      walk_at "go"
      rename_i t nt
      exact fin _ _ _ _ _ _ s3 (B3.le (by omega)) nt (s3 _ _ h1') (s3 _ _ h2) z1 z2
end
end Ko


namespace Ko
open PySem L2 PySem.Spec PyProof.Rows Xm
theorem Bl.caughtR {P : Program} {w : World} {K : Fg} {mg : Str → Option Value} {base : Heap} {R C : Addr} (Z : Bl P w K mg base R C) : PySem.W.exmOne K (.ref C) (.ref R) = some true := by
  obtain ⟨cd, h1, h2, h3, h4⟩ := Z.e.cls
  have sub : PySem.W.subIn K (.ref C) (.ref R) = some true := by
    show PySem.W.mroIn K C _ = _
    unfold PySem.W.mroIn
    rw [h1, Option.bind_some, h2]
    have : (Value.ref C :: Value.ref R :: PySem.HandSPX.veTail).contains (.ref R) = true := by simp
    rw [this]
    rfl
  exact PySem.W.exm_ref Z.r.sB Z.r.dR Z.r.tR sub
/-- isinstance(e, c), e the exception that the suite holds -/
def rIsX (K : Fg) (a : Addr) (cls : Value) (d : Option Addr) : List V → Hp → VK → Prop := fun xs H Q => ∃ (C : Addr) (c : V) (cv : Value) (b : Bool), xs = [.ref a, c] ∧ cls = .ref C ∧
  (∀ dx, d = some dx → ∃ fs, H dx = some (exd dx fs)) ∧ ExcC K C ∧ ClsV c cv ∧ PySem.W.kitOne K (.ref C) cv = some b ∧ Q (.bl b) H
theorem call_isX {X : Cx} {K : Fg} {a : Addr} {oe : Obj} {cls : Value} {d : Option Addr} {pn : List (Addr × Obj)} (hz : Zc cls d oe) (hf : ∃ vs, oe.data = .fields vs) (h : X.K = K := by rfl) : CallR (X.suite a ((a, oe) :: pn)) (.builtin "isinstance") (rIsX K a cls d) := by
  intro pins s σ H xs us Q I r hh
  obtain ⟨C, c, cv, b, rfl, rfl, hd, T, k, kt, q⟩ := hh
  subst h
  exact call_isPin (X := X.suite a ((a, oe) :: pn)) (p := (a, oe)) List.mem_cons_self pins s σ H _ us Q I r ⟨C, d, c, cv, b, rfl, hz, hf, hd, T, k, kt, q⟩
def TTry (C : Addr) : (XK → Hp → VK → Prop) → Hp → VK → Prop := fun tl H Q =>
  tl (fun cls d H' => cls = .ref C ∧ (∀ dx, d = some dx → ∃ fs, H' dx = some (exd dx fs)) ∧ ∀ p, H' p = none → Q (.ref p) (upd H' p (.tup [.str "BadLoft"]))) H (fun v H1 => [V.str "", v].length ≤ sizeLine ∧ ∀ p, H1 p = none → Q (.ref p) (upd H1 p (.tup [.str "", v])))
theorem try_gives {X : Cx} {R C g : Addr} {cdg : Value} {q : Str} (T : Blt X.mg) (Z : Bl X.prog X.w X.K X.mg X.base R C) : LamX.GivesTo X ["_law_ask", "e"] "_law_try" (defScope s_l_try) g cdg (defBody s_l_try) "_law_ask" q (TTry C) := by
  intro f c' s H Q tl act hc h
  refine ⟨_, pss_cons (ps_try_as (X := (cxOf C8.CX0 X.prog X.w X.K X.mg X.base ["_law_ask", "e"] "_law_try" (defScope s_l_try) g cdg X.A X.stack s H C8.E0).nox) (i := 1) (c := .ref R)
      (tb := fun W D σ H => ∃ Ech : XK, (∀ cls d σ' H', σ'.length = 2 → Ech cls d H' → W cls d σ' H') ∧ tRet (tTup (tCons (tC (.str "")) (tCons (fun σZ HZ Q => σZ[0]? = some (some (.ref f)) ∧ HZ c' = some (LamX.CodeO c' q) ∧ tl Ech HZ Q) tNil))) D σ H)
      (Wout := fun _ _ _ _ => False) rfl rfl sc_l_try.nd rfl rfl ⟨rfl, by decide, .inl Z.r.g⟩ LamX.takes0
      (fun W pn xe tk _ => ?_)
      (fun a oe cls d pn hz hf => pss_one (ps_if (PW.pt (pw_and (pt_val (pe_callB (call_isX hz hf) (by rfl) T.n_isinstance (by decide +kernel) (pa_cons (pv 1) (pa_cons (pe_glob (v := .ref _) (by rfl) Z.e.g rfl) pa_nil)))) (pw_and1 (pt_val (pe_callB (call_isX hz hf) (by rfl) T.n_isinstance (by decide +kernel) (pa_cons (pv 1) (pa_cons (pe_bltn (v := .ty "ValueError") (by rfl) T.n_ValueError (by decide +kernel) rfl) pa_nil)))))))
        (pss_one (ps_ret (pe_tup (pa_cons pe_str pa_nil)))) pss_nil)))
      (pss_one (ps_ret (pe_tup (pa_cons pe_str pa_nil)))), ?_⟩
  · refine ⟨fun pins s' σ H' D I h' => ?_⟩
    obtain ⟨Ech, hW, h1⟩ := h'
    have tk2 : Takes ((cxOf C8.CX0 X.prog X.w X.K X.mg X.base ["_law_ask", "e"] "_law_try" (defScope s_l_try) g cdg X.A X.stack s H C8.E0).tr pn xe) (fun cls d σ' H' => σ'.length = 2 → W cls d σ' H') := fun u s'' xx => tk u s'' (by
      obtain ⟨a, B, sI, pins2, σ2, H2, cls, d, e1, I2, e2, e3, e4, e5, e6, e7, wz⟩ := xx
      exact ⟨a, B, sI, pins2, σ2, H2, cls, d, e1, I2, e2, e3, e4, e5, e6, e7, wz I2.len⟩)
    have hp := fun p1 p2 => act (fun cls d σ' H' => σ'.length = 2 → W cls d σ' H') pn xe Ech p1 p2 tk2 (fun cls d σ' H' z l => hW cls d σ' H' l z)
    exact (pss_one (ps_ret (pe_tup (pa_cons pe_str (pa_cons (hp _ _) pa_nil))))).run pins s' σ H' D I h1
  · refine ⟨fun cls d H' => cls = .ref C ∧ (∀ dx, d = some dx → ∃ fs, H' dx = some (exd dx fs)) ∧ ∀ p, H' p = none → Q (.ref p) (upd H' p (.tup [.str "BadLoft"])), fun cls d σ' H' l z => ?_, ?_⟩
    · obtain ⟨rfl, hd, kq⟩ := z
      refine ⟨true, Z.caughtR, fun _ a ha => ?_, fun z => by cases z⟩
      match σ', l with
      | [x0, x1], _ =>
        refine ⟨_, rfl, C, .ref C, .ref C, true, rfl, rfl, hd, Z.e.xc Z.r, .own C, Ecl.kit_same C, true, rfl, ?_⟩
        refine iteT ⟨_, rfl, C, .ty "ValueError", .type "ValueError", true, rfl, rfl, hd, Z.e.xc Z.r, .ty _, Z.e.kit_VE, true, rfl, ?_⟩
        refine iteT ⟨by show 1 ≤ sizeLine; rw [sizeLine_eq]; decide, fun p np => kq p np⟩
    · exact ⟨rfl, hc, h⟩
end Ko


namespace Ko
open PySem L2 PySem.Spec PyProof.Rows Xm
theorem ok_int {m : Nat} {i : Int} : Dt.ok m (.int i) := by cases m <;> trivial
theorem ok_bl {m : Nat} {i : Bool} : Dt.ok m (.bl i) := by cases m <;> trivial
theorem ok_cs {m : Nat} {cs : List Cn} (h : cs.length ≤ 1000) : Dt.ok (m + 3) (.tup (cs.map cnD)) := by
  refine ⟨by rw [List.length_map]; exact h, fun d hd => ?_⟩
  obtain ⟨c, _, rfl⟩ := List.mem_map.mp hd
  refine ⟨by show 3 ≤ 1000; decide, fun d hd => ?_⟩
  have g : ∀ q : Pq, Dt.ok (m + 1) (Dt.pq q) := fun q => ⟨by show 2 ≤ 1000; decide, fun d hd => by
    simp only [List.mem_cons, List.not_mem_nil, or_false] at hd
    rcases hd with rfl | rfl <;> exact ok_int⟩
  simp only [List.mem_cons, List.not_mem_nil, or_false] at hd
  rcases hd with rfl | rfl | rfl <;> exact g _
theorem ok_fs {m : Nat} {fs : List Fc} (h : fs.length ≤ 1000) : Dt.ok (m + 3) (.tup (fs.map fcD)) := by
  refine ⟨by rw [List.length_map]; exact h, fun d hd => ?_⟩
  obtain ⟨c, _, rfl⟩ := List.mem_map.mp hd
  refine ⟨by show 3 ≤ 1000; decide, fun d hd => ?_⟩
  simp only [List.mem_cons, List.not_mem_nil, or_false] at hd
  rcases hd with rfl | rfl | rfl <;> exact ok_int
theorem ok_two {a b : Dt} (h1 : Dt.ok 3 a) (h2 : Dt.ok 3 b) : Dt.ok 4 (.lst [a, b]) := by
  refine ⟨by show 2 ≤ 1000; decide, fun d hd => ?_⟩
  simp only [List.mem_cons, List.not_mem_nil, or_false] at hd
  rcases hd with rfl | rfl <;> assumption
theorem ok_four {a b : Dt} {x y : Bool} (h1 : Dt.ok 3 a) (h2 : Dt.ok 3 b) : Dt.ok 4 (.lst [a, b, .bl x, .bl y]) := by
  refine ⟨by show 4 ≤ 1000; decide, fun d hd => ?_⟩
  simp only [List.mem_cons, List.not_mem_nil, or_false] at hd
  rcases hd with rfl | rfl | rfl | rfl <;> first | assumption | exact ok_bl
def spRight (CN : Addr) : Sp := fun vs H Q _ => ∃ (v : V) (r : Addr) (cs : List Cn) (fs : List Fc) (zs : List Z3), vs = [v, .ref r] ∧ NetO CN H v (cs.map cnD) (fs.map fcD) ∧ Dq H (.ref r) (.lst [.lst (cs.map cnD), .lst (fs.map fcD)]) ∧ Paired CnR cs zs ∧ (∀ f ∈ fs, FcOk cs.length f) ∧ cs.length ≤ 1000 ∧ fs.length ≤ 1000 ∧ (∀ ks, KeysOf fs ks → rowsOf fs ks = []) ∧ ∀ H', Same H H' → Q (.bl true) H'

local macro_rules | `(tactic| walk_at "hpS") => `(tactic| with_reducible first
  | exact Same.refl _
  | assumption
  | (refine' Same.trans ?hq (same_new (by assumption)); (case hq => walk_at "hpS"))
  | (refine' Same.trans ?hq (by assumption); (case hq => walk_at "hpS"))
  | fail)
local macro_rules | `(tactic| walk_at "hpH") => `(tactic| with_reducible first
  | assumption
  | exact upd_same
  | (refine' same_at (same_new (by assumption)) ?hq; (case hq => walk_at "hpH"))
  | (refine' same_at (by assumption) ?hq; (case hq => walk_at "hpH"))
  | fail)
local macro_rules | `(tactic| walk_at "hpTo") => `(tactic| with_reducible first
  | assumption
  | (refine' sq_t (same_new (by assumption)) ?hq; (case hq => walk_at "hpTo"))
  | (refine' sq_t (by assumption) ?hq; (case hq => walk_at "hpTo"))
  | fail)
local macro_rules | `(tactic| walk_at "hpT") => `(tactic| with_reducible first
  | (refine' SqT.of ?hq; (case hq => walk_at "hpH"))
  | walk_at "hpTo"
  | fail)
local macro_rules | `(tactic| walk_at "hpLo") => `(tactic| with_reducible first
  | assumption
  | (refine' sq_l (same_new (by assumption)) ?hq; (case hq => walk_at "hpLo"))
  | (refine' sq_l (by assumption) ?hq; (case hq => walk_at "hpLo"))
  | fail)
local macro_rules | `(tactic| walk_at "hpL") => `(tactic| with_reducible first
  | (refine' SqL.of ?hq; (case hq => walk_at "hpH"))
  | walk_at "hpLo"
  | fail)
local macro_rules | `(tactic| walk_at "kit") => `(tactic| with_reducible first
  | exact kit_int_bool | exact kit_int_int | exact kit_int_tuple | exact kit_int_list | exact kit_int_str
  | exact kit_tuple_tuple | exact kit_tuple_int | exact kit_tuple_bool | exact kit_tuple_list | exact kit_tuple_str
  | exact kit_bool_bool | exact kit_bool_int | exact kit_bool_tuple | exact kit_bool_list | exact kit_bool_str
  | exact kit_str_str | exact kit_str_int | exact kit_str_bool | exact kit_str_tuple | exact kit_str_list
  | exact kit_NoneType_int | exact kit_NoneType_bool | exact kit_NoneType_tuple | exact kit_NoneType_list | exact kit_NoneType_str
  | exact kit_list_list | exact kit_list_tuple | exact kit_list_int | exact kit_list_bool | exact kit_list_str
  | fail)
local macro_rules | `(tactic| walk_at "call") => `(tactic| fail)
local macro_rules | `(tactic| walk_at "s0") => `(tactic| with_reducible first
  | refine g_seq ?_ | refine g_asg ?_ | refine g_name ?_ | refine g_ifS ?_ | refine g_ret ?_ | refine g_retN ?_ | refine g_next ?_
  | refine g_par ?_ | refine g_parE ?_ | refine g_drop ?_
  | refine g_c ?_ | refine g_op ?_ | refine g_un ?_ | refine g_cb ?_ | refine g_call ?_ | refine g_nil ?_ | refine g_cons ?_ | refine g_tup ?_ | refine g_lst ?_
  | refine g_test ?_ | refine g_B ?_ | refine g_blF ?_ | refine g_and ?_ | refine g_or ?_ | refine g_not ?_ | refine g_andV ?_ | refine g_orV ?_ | refine g_notV ?_ | refine g_if ?_
  | refine iteT ?_ | refine iteF ?_
  | refine g_chain ?_ | refine g_sl ?_ | refine g_noPart ?_ | refine g_part ?_ | refine g_partI ?_ | refine g_slS ?_ ?side | refine g_M1 ?_ | refine g_M1s ?_ | refine g_starts ?_ | refine g_bm ?_ | refine g_bm0 ?_ | refine g_tyS ?_
  | refine g_Fs ?_ | refine g_JsN ?_ | refine g_JsC ?_ | refine g_JsE ?_ ?side | refine g_fmt ?_ | refine g_fmtI ?_ ?side | refine g_fmtS ?_ ?side | refine g_iList ?_ | refine g_iTup ?_ | refine g_iStr ?_ | refine g_iStrE ?_ | refine g_iRng1 ?_ | refine g_iRng1E ?_ ?side1 ?side2 | refine g_yes ?_ | refine g_ckw ?_ | refine g_dget ?_ | refine g_dictZip ?_ | refine g_gCons ?_ | refine g_gNil ?_ | refine g_revL ?_ | refine g_for ?_ | refine g_lc ?_ | refine g_addS ?_ ?side | refine g_str ?_ ?side | refine g_lenS ?_ ?side
  | refine g_rI0 ?_ | refine g_rI ?_ ?side | refine g_rU ?_ | refine g_abs ?_ | refine g_int ?_ | refine g_intB ?_ | refine g_gcd ?_ | refine g_inS ?_ | refine g_isN0 ?_ | refine g_notN0 ?_
  | fail)
local macro_rules | `(tactic| walk_at "s1") => `(tactic| first
  | ((with_reducible refine' g_var ?h ?_); (case h => exact rfl))
  | ((with_reducible refine' g_new ?h ?_); (case h => exact (by simp only [List.length_cons, List.length_nil]; decide)); intro tnew htnew)
  | ((with_reducible refine' iteDT ?h ?_); (case h => first | exact rfl | assumption))
  | ((with_reducible refine' iteNT ?h ?_); (case h => first | exact rfl | assumption))
  | ((with_reducible refine' iteDF ?h ?_); (case h => first | assumption | (intro z; cases z)))
  | ((with_reducible refine' iteNF ?h ?_); (case h => first | assumption | (intro z; cases z)))
  | ((with_reducible refine' g_eq ?_ ?h); (case h => exact rfl))
  | ((with_reducible refine' g_ne ?_ ?h); (case h => exact rfl))
  | ((with_reducible refine' g_ixT ?_ ?h ?e); (case h => walk_at "hpT"); (case e => first | exact rfl | exact atI_0 | exact atI_1))
  | ((with_reducible refine' g_ixL ?_ ?h ?e); (case h => walk_at "hpL"); (case e => first | exact rfl | exact atI_0 | exact atI_1))
  | ((with_reducible refine' g_isi_int ?_ ?h); (case h => walk_at "kit"))
  | ((with_reducible refine' g_isi_str ?_ ?h); (case h => walk_at "kit"))
  | ((with_reducible refine' g_isi_bl ?_ ?h); (case h => walk_at "kit"))
  | ((with_reducible refine' g_isi_non ?_ ?h); (case h => walk_at "kit"))
  | ((with_reducible refine' g_isi_t ?_ ?t ?h); (case t => walk_at "hpT"); (case h => walk_at "kit"))
  | ((with_reducible refine' g_isi_l ?_ ?t ?h ?l); (case l => walk_at "hpH"); (case t => walk_at "hpL"); (case h => walk_at "kit"))
  | ((with_reducible refine' g_lenT ?_ ?h); (case h => walk_at "hpT"))
  | ((with_reducible refine' g_lenL ?_ ?h); (case h => walk_at "hpL"))
  | ((with_reducible refine' g_split ?_ ?h ?side); (case h => exact rfl); intro pnew hpnew)
  | ((with_reducible refine' g_slL ?h ?_); (case h => walk_at "hpL"); intro pnew hpnew)
  | ((with_reducible refine' g_iListE ?_ ?h); (case h => walk_at "hpL"))
  | ((with_reducible refine' g_iTupE ?_ ?h); (case h => walk_at "hpT"))
  | ((with_reducible refine' g_tyL ?_ ?h); (case h => walk_at "hpL"))
  | ((with_reducible refine' g_join ?_ ?h ?side); (case h => walk_at "hpL"))
  | ((with_reducible refine' g_append ?_ ?h ?side); (case h => walk_at "hpH"))
  | ((with_reducible refine' g_all ?_ ?h); (case h => walk_at "hpL"))
  | ((with_reducible refine' g_gTup ?_ ?h ?n); (case h => walk_at "hpT"); (case n => exact rfl))
  | ((with_reducible refine' g_revLE ?h ?_); (case h => walk_at "hpL"); intro pnew hpnew)
  | ((with_reducible refine' g_isN1 ?_ ?h); (case h => first | assumption | (intro z; cases z)))
  | ((with_reducible refine' g_notN1 ?_ ?h); (case h => first | assumption | (intro z; cases z)))
  | walk_at "call"
  | ((with_reducible refine' iteBT ?h ?_); (case h => first | assumption | exact rfl))
  | ((with_reducible refine' iteBF ?h ?_); (case h => first | assumption | exact rfl))
  | fail)
local macro_rules | `(tactic| walk_at "nrm") => `(tactic| simp only [Bool.not_true, Bool.not_false, decide_eq_true_eq, decide_true, decide_false, Bool.true_and, Bool.false_and, Bool.and_true, Bool.and_false, V.int.injEq, V.bl.injEq, V.str.injEq, List.length_cons, List.length_nil, Bool.not_eq_true', decide_eq_false_iff_not, Int.not_lt, Int.not_le, reduceCtorEq, not_false_eq_true, not_true_eq_false, Decidable.not_not] at *)
local macro_rules | `(tactic| walk_at "sp") => `(tactic| ((with_reducible refine ite2 (fun c => ?_) (fun c => ?_)) <;> (try simp only [decide_eq_true_eq, Bool.not_eq_true', decide_eq_false_iff_not, V.int.injEq, V.bl.injEq, V.str.injEq, Int.not_lt, Int.not_le, reduceCtorEq, Decidable.not_not, Bool.false_eq_true, Bool.true_eq_false] at c) <;> (try (exfalso; omega))))
local macro_rules | `(tactic| walk_at "s") => `(tactic| first | walk_at "s0" | walk_at "s1" | fail)
local macro_rules | `(tactic| walk_at "go") => `(tactic| (try dsimp only [cxK, cxK']); repeat' walk_at "s")
local macro_rules | `(tactic| walk_at "gos") => `(tactic| ((try dsimp only [cxK, cxK']); repeat' (first | walk_at "s" | walk_at "sp" | fail)))

local macro_rules | `(tactic| walk_at "hpNo") => `(tactic| with_reducible first
  | assumption
  | (refine' Nm.ofPr ?hq; (case hq => assumption))
  | (refine' Nm.same (same_new (by assumption)) ?hq; (case hq => walk_at "hpNo"))
  | (refine' Nm.same (by assumption) ?hq; (case hq => walk_at "hpNo"))
  | fail)
local macro_rules | `(tactic| walk_at "hpN") => `(tactic| with_reducible first
  | walk_at "hpNo"
  | (refine' Nm.of ?hq; (case hq => walk_at "hpH"))
  | fail)
local macro_rules | `(tactic| walk_at "hpPo") => `(tactic| with_reducible first
  | assumption
  | (refine' Pr.same (same_new (by assumption)) ?hq; (case hq => walk_at "hpPo"))
  | (refine' Pr.same (by assumption) ?hq; (case hq => walk_at "hpPo"))
  | fail)
local macro_rules | `(tactic| walk_at "hpP") => `(tactic| with_reducible first
  | walk_at "hpPo"
  | (refine' Pr.of ?hq; (case hq => walk_at "hpH"))
  | fail)
local macro_rules | `(tactic| walk_at "hpDo") => `(tactic| with_reducible first
  | assumption
  | exact Dq.int _ | exact Dq.bl _ | exact Dq.str _ | exact Dq.non
  | (refine' Dq.same (same_new (by assumption)) ?hq; (case hq => walk_at "hpDo"))
  | (refine' Dq.same (by assumption) ?hq; (case hq => walk_at "hpDo"))
  | fail)
local macro_rules | `(tactic| walk_at "hpD") => `(tactic| with_reducible first
  | walk_at "hpDo"
  | fail)

local macro_rules | `(tactic| walk_at "call") => `(tactic| first | (with_reducible refine g_fld ?_) | fail)
section
variable {P : Program} {w : World} {K : Fg} {mg : Str → Option Value} {base : Heap} {CN fI f f1 f2 f3 f4 f5 : Addr} {fd : FuncData}
theorem ok_l_right (F : Fun K "_law_right" "_law_right" s_l_right f fd) (T : Blt mg) (ZN : NetC K mg CN fI) (D_l_same : Df P w K mg base 5 "_law_same" f1 ["_law_found", "_law_due"] (spLike 4)) (D_is_closed : Df P w K mg base 4 "is_closed" f2 ["net"] (spClosed CN)) (D_open_edges : Df P w K mg base 3 "open_edges" f3 ["net"] (spOpen CN)) (D_volume : Df P w K mg base 4 "volume" f4 ["net"] (spVol CN)) (D_l_volume : Df P w K mg base 5 "_law_volume" f5 ["_law_pair"] spLVol) : FnOk P w K mg base CX0 6 f fd ["_law_made", "_law_pair"] (spRight CN) := by
  obtain ⟨_, G_l_same, B_l_same⟩ := D_l_same.ok
  obtain ⟨_, G_is_closed, B_is_closed⟩ := D_is_closed.ok
  obtain ⟨_, G_open_edges, B_open_edges⟩ := D_open_edges.ok
  obtain ⟨_, G_volume, B_volume⟩ := D_volume.ok
  obtain ⟨_, G_l_volume, B_l_volume⟩ := D_l_volume.ok
  refine F.ok sc_l_right (fun vs H Q E h => ?_) (fun cdv A outer s H vs Q E hr h => ?_)
  · obtain ⟨v, r, cs, fs, zs, rfl, _⟩ := h
    rfl
  · obtain ⟨v, r, cs, fs, zs, rfl, hn, hq, hz, hf, lc, lf, ho, k⟩ := h
    refine ⟨_, (pss_cons (ps_if (pt_not (pt_val (pe_call G_l_same (hr.mono (by decide)) (by rfl) D_l_same.g D_l_same.kp B_l_same .nil pass0 (pa_cons (pe_lst (pa_cons (pe_fldK K (pv 0) rfl) (pa_cons (pe_fldK K (pv 0) rfl) pa_nil))) (pa_cons (pe_lst (pa_cons (pe_callTy (cg_tupOf K) (by rfl) T.n_tuple (by decide +kernel) (pa_cons (pe_ix (ix_seqK K) (pv 1) pe_int (fun _ _ => rfl)) pa_nil)) (pa_cons (pe_callTy (cg_tupOf K) (by rfl) T.n_tuple (by decide +kernel) (pa_cons (pe_ix (ix_seqK K) (pv 1) pe_int (fun _ _ => rfl)) pa_nil)) pa_nil))) pa_nil)))))
      (pss_one (ps_ret pe_bl)) pss_nil)
      (pss_one (ps_ret (pe_call G_l_same (hr.mono (by decide)) (by rfl) D_l_same.g D_l_same.kp B_l_same .nil pass0 (pa_cons (pe_lst (pa_cons (pe_call G_is_closed (hr.mono (by decide)) (by rfl) D_is_closed.g D_is_closed.kp B_is_closed .nil pass0 (pa_cons (pv 0) pa_nil)) (pa_cons (pe_call G_open_edges (hr.mono (by decide)) (by rfl) D_open_edges.g D_open_edges.kp B_open_edges .nil pass0 (pa_cons (pv 0) pa_nil)) (pa_cons (pe_call G_volume (hr.mono (by decide)) (by rfl) D_volume.g D_volume.kp B_volume .nil pass0 (pa_cons (pv 0) pa_nil)) pa_nil)))) (pa_cons (pe_lst (pa_cons pe_bl (pa_cons (pe_lst pa_nil) (pa_cons (pe_call G_l_volume (hr.mono (by decide)) (by rfl) D_l_volume.g D_l_volume.kp B_l_volume .nil pass0 (pa_cons (pv 1) pa_nil)) pa_nil)))) pa_nil)))))), ?_⟩
    obtain ⟨x, dx, ca, fa, rfl, hx, qc, qf⟩ := id hn
    obtain ⟨ys, hr0, dys⟩ := dq_lst hq
    cases dys with
    | cons d1 r1 =>
    cases r1 with
    | cons d2 r2 =>
    cases r2
    cases d1 with
    | lst hl1 dl1 =>
    cases d2 with
    | lst hl2 dl2 =>
    rename_i l1 xs1 l2 xs2
    walk_at "go"
    refine ⟨x, CN, dx, _, .ref ca, rfl, hx, ZN.cl, ZN.nC, rfl, ?_⟩
    walk_at "go"
    refine ⟨x, CN, dx, _, .ref fa, rfl, hx, ZN.cl, ZN.nF, rfl, ?_⟩
    walk_at "go"
    rename_i L nL
    have s1 := same_new (o := .lst [.ref ca, .ref fa]) nL
    have hL := upd_same (H := H) (a := L) (o := .lst [.ref ca, .ref fa])
    generalize upd H L (.lst [.ref ca, .ref fa]) = H1 at s1 hL
    have hr1 := s1 _ _ hr0
    refine g_tupA (.inl (s1 _ _ hl1)) fun t1 H2 s2 _ ht1 => ?_
    have hr2 := s2 _ _ hr1
    walk_at "go"
    refine g_tupA (.inl (s2 _ _ (s1 _ _ hl2))) fun t2 H3 s3 _ ht2 => ?_
    walk_at "go"
    rename_i M nM
    have s4 := same_new (o := .lst [.ref t1, .ref t2]) nM
    have s34 := s3.trans s4
    have s24 := s2.trans s34
    have s14 := s1.trans s24
    refine sp_like (d := .lst [.tup (cs.map cnD), .tup (fs.map fcD)]) (.lst (s24 _ _ hL) (.cons (qc.same s14) (.cons (qf.same s14) .nil))) (.lst upd_same (.cons (.tup (s34 _ _ ht1) (dl1.same s14)) (.cons (.tup (s4 _ _ ht2) (dl2.same s14)) .nil))) (ok_two (ok_cs lc) (ok_fs lf)) fun H5 s5 => ?_
    have s := s14.trans s5
    have hn := hn.same s
    have hq := hq.same s
    clear hL hr1 hr2 ht1 ht2 s1 s2 s3 s4 s34 s24 s14 s5 dl1 dl2 hl1 hl2 hr0 qc qf hx nL nM
    walk_at "go"
    refine ⟨_, _, fs, rfl, hn, lf, fun ks H6 s6 kk => ?_⟩
    rw [ho ks kk]
    walk_at "go"
    refine ⟨_, _, fs, rfl, hn.same s6, lf, fun D ys ks H7 s7 kk hD dD => ?_⟩
    rw [ho ks kk] at dD
    cases dD
    walk_at "go"
    have hn7 := (hn.same s6).same s7
    refine ⟨_, cs, fs, zs, rfl, hn7, hz, hf, lf, fun v H8 s8 hv => ?_⟩
    walk_at "go"
    rename_i L nL E' nE
    have s9 := (same_new (o := .lst [.bl true, .ref D, v]) nL).trans (same_new (o := .lst []) nE)
    have s69 := (s6.trans s7).trans (s8.trans s9)
    refine ⟨r, cs, fs, zs, rfl, hq.same s69, hz, hf, lf, fun u H10 s10 hu => ?_⟩
    walk_at "go"
    rename_i M nM
    have sM := same_new (o := .lst [.bl true, .ref E', u]) nM
    obtain ⟨q, iq, dq⟩ := hv.dq
    obtain ⟨q', iq', dq'⟩ := hu.dq
    obtain rfl : q = q' := Is.inj (by decide) iq iq'
    have sEL := same_new (o := .lst []) nE
    have hL : upd H10 M (.lst [.bl true, .ref E', u]) L = some (.lst [.bl true, .ref D, v]) := sM _ _ (s10 _ _ (sEL _ _ upd_same))
    have hD' : upd H10 M (.lst [.bl true, .ref E', u]) D = some (.lst []) := sM _ _ (s10 _ _ (s9 _ _ (s8 _ _ hD)))
    have hE' : upd H10 M (.lst [.bl true, .ref E', u]) E' = some (.lst []) := sM _ _ (s10 _ _ upd_same)
    refine sp_like (d := .lst [.bl true, .lst [], .pq q]) (.lst hL (.cons (.bl _) (.cons (.lst hD' .nil) (.cons (((dq.same s9).same s10).same sM) .nil)))) (.lst upd_same (.cons (.bl _) (.cons (.lst hE' .nil) (.cons (dq'.same sM) .nil)))) ?_ fun H11 s11 => k _ ((((s.trans s69).trans s10).trans sM).trans s11)
    refine ⟨by show 3 ≤ 1000; decide, fun d hd => ?_⟩
    simp only [List.mem_cons, List.not_mem_nil, or_false] at hd
    rcases hd with rfl | rfl | rfl
    · exact ok_bl
    · exact ⟨by show 0 ≤ 1000; decide, fun d hd => by cases hd⟩
    · refine ⟨by show 2 ≤ 1000; decide, fun d hd => ?_⟩
      simp only [List.mem_cons, List.not_mem_nil, or_false] at hd
      rcases hd with rfl | rfl <;> exact ok_int
end
end Ko


namespace Ko
open PySem L2 PySem.Spec PyProof.Rows Xm
/-- a list of spots, beside the bag -/
def SpL (b : Addr) (H : Hp) (l : Addr) (ss : List Sp2) : Prop := ∃ xs, l ≠ b ∧ H l = some (.lst xs) ∧ DqAll (delH H b) xs (ss.map spD) ∧ (∀ s ∈ ss, SmS s) ∧ ss.length ≤ 8
def spAny : Sp := fun vs H Q _ => ∃ (N : Nat) (b c : Addr), vs = [.ref b] ∧ Bag N H b c ∧ 200 ≤ N ∧ ∀ (t l1 l2 : Addr) (t1 t2 : V) (ss ts : List Sp2) (p q : Pq) (H' : Hp), Same (delH H b) (delH H' b) → Bag (N - 200) H' b c → H' t = some (.tup [.ref l1, t1, .ref l2, t2]) → SpL b H' l1 ss → SpL b H' l2 ts → Pr (delH H' b) t1 p → Pr (delH H' b) t2 q → Small p → Small q → Q (.ref t) H'
section
variable {b c l p t : Addr} {H H' : Hp} {ss ts : List Sp2} {N : Nat}
theorem SpL.bag (h : SpL b H l ss) (s : Same (delH H b) (delH H' b)) : SpL b H' l ss := by
  obtain ⟨xs, n, e, d, r⟩ := h
  exact ⟨xs, n, mk_same _ _ (s _ _ (mk_at e n)), d.same s, r⟩
theorem SpL.mk {xs : List V} (B : Bag N H b c) (n : l ≠ b) (e : H l = some (.lst xs)) (d : DqAll H xs (ss.map spD)) (h1 : ∀ s ∈ ss, SmS s) (h2 : ss.length ≤ 8) : SpL b H l ss := by
  obtain ⟨_, _, _, _, _, _, hb, _⟩ := B
  exact ⟨xs, n, e, d.dels hb (sps_noL _), h1, h2⟩
theorem dq_take : ∀ (k : Nat) {vs : List V} {ds : List Dt}, DqAll H vs ds → DqAll H (vs.take k) (ds.take k)
  | 0, _, _, _ => by rw [List.take_zero, List.take_zero]; exact .nil
  | k + 1, _, _, .nil => .nil
  | k + 1, _, _, .cons h r => by rw [List.take_succ_cons, List.take_succ_cons]; exact .cons h (dq_take k r)
theorem cutV_pre (xs : List V) (j : Int) : ∃ k, cutV xs none (some j) = xs.take k := by
  unfold cutV
  have e2 : HT.sIx xs.length 0 none = 0 := rfl
  rw [e2]
  exact ⟨HT.sIx xs.length xs.length (some j), by simp⟩
theorem SpL.cut (h : SpL b H l ss) (B : Bag N H b c) {xs : List V} (hx : H l = some (.lst xs)) (np : H p = none) (j : Int) : ∃ ts, SpL b (upd H p (.lst (cutV xs none (some j)))) p ts := by
  obtain ⟨xs', n, e, d, r, hl⟩ := h
  rw [hx] at e
  cases e
  obtain ⟨k, hk⟩ := cutV_pre xs j
  rw [hk]
  refine ⟨ss.take k, _, (B.free np).1, upd_same, ?_, fun s hs => r s (List.mem_of_mem_take hs), by rw [List.length_take]; omega⟩
  rw [List.map_take]
  exact dq_take k (d.same (mk_upd np))
theorem SpL.len (h : SpL b H l ss) : ss.length ≤ 8 := by
  obtain ⟨xs, n, e, d, r, hl⟩ := h
  exact hl
theorem SpL.at_ (h : SpL b H l ss) : ∃ xs, H l = some (.lst xs) ∧ xs.length ≤ 8 := by
  obtain ⟨xs, n, e, d, r, hl⟩ := h
  have := d.length
  rw [List.length_map] at this
  exact ⟨xs, e, by omega⟩
end

local macro_rules | `(tactic| walk_at "hpS") => `(tactic| with_reducible first
  | exact Same.refl _
  | assumption
  | (refine' Same.trans ?hq (same_new (by assumption)); (case hq => walk_at "hpS"))
  | (refine' Same.trans ?hq (by assumption); (case hq => walk_at "hpS"))
  | fail)
local macro_rules | `(tactic| walk_at "hpH") => `(tactic| with_reducible first
  | assumption
  | exact upd_same
  | (refine' same_at (same_new (by assumption)) ?hq; (case hq => walk_at "hpH"))
  | (refine' same_at (by assumption) ?hq; (case hq => walk_at "hpH"))
  | fail)
local macro_rules | `(tactic| walk_at "hpTo") => `(tactic| with_reducible first
  | assumption
  | (refine' sq_t (same_new (by assumption)) ?hq; (case hq => walk_at "hpTo"))
  | (refine' sq_t (by assumption) ?hq; (case hq => walk_at "hpTo"))
  | fail)
local macro_rules | `(tactic| walk_at "hpT") => `(tactic| with_reducible first
  | (refine' SqT.of ?hq; (case hq => walk_at "hpH"))
  | walk_at "hpTo"
  | fail)
local macro_rules | `(tactic| walk_at "hpLo") => `(tactic| with_reducible first
  | assumption
  | (refine' sq_l (same_new (by assumption)) ?hq; (case hq => walk_at "hpLo"))
  | (refine' sq_l (by assumption) ?hq; (case hq => walk_at "hpLo"))
  | fail)
local macro_rules | `(tactic| walk_at "hpL") => `(tactic| with_reducible first
  | (refine' SqL.of ?hq; (case hq => walk_at "hpH"))
  | walk_at "hpLo"
  | fail)
local macro_rules | `(tactic| walk_at "kit") => `(tactic| with_reducible first
  | exact kit_int_bool | exact kit_int_int | exact kit_int_tuple | exact kit_int_list | exact kit_int_str
  | exact kit_tuple_tuple | exact kit_tuple_int | exact kit_tuple_bool | exact kit_tuple_list | exact kit_tuple_str
  | exact kit_bool_bool | exact kit_bool_int | exact kit_bool_tuple | exact kit_bool_list | exact kit_bool_str
  | exact kit_str_str | exact kit_str_int | exact kit_str_bool | exact kit_str_tuple | exact kit_str_list
  | exact kit_NoneType_int | exact kit_NoneType_bool | exact kit_NoneType_tuple | exact kit_NoneType_list | exact kit_NoneType_str
  | exact kit_list_list | exact kit_list_tuple | exact kit_list_int | exact kit_list_bool | exact kit_list_str
  | fail)
local macro_rules | `(tactic| walk_at "call") => `(tactic| fail)
local macro_rules | `(tactic| walk_at "s0") => `(tactic| with_reducible first
  | refine g_seq ?_ | refine g_asg ?_ | refine g_name ?_ | refine g_ifS ?_ | refine g_ret ?_ | refine g_retN ?_ | refine g_next ?_
  | refine g_par ?_ | refine g_parE ?_ | refine g_drop ?_
  | refine g_c ?_ | refine g_op ?_ | refine g_un ?_ | refine g_cb ?_ | refine g_call ?_ | refine g_nil ?_ | refine g_cons ?_ | refine g_tup ?_ | refine g_lst ?_
  | refine g_test ?_ | refine g_B ?_ | refine g_blF ?_ | refine g_and ?_ | refine g_or ?_ | refine g_not ?_ | refine g_andV ?_ | refine g_orV ?_ | refine g_notV ?_ | refine g_if ?_
  | refine iteT ?_ | refine iteF ?_
  | refine g_chain ?_ | refine g_sl ?_ | refine g_noPart ?_ | refine g_part ?_ | refine g_partI ?_ | refine g_slS ?_ ?side | refine g_M1 ?_ | refine g_M1s ?_ | refine g_starts ?_ | refine g_bm ?_ | refine g_bm0 ?_ | refine g_tyS ?_
  | refine g_Fs ?_ | refine g_JsN ?_ | refine g_JsC ?_ | refine g_JsE ?_ ?side | refine g_fmt ?_ | refine g_fmtI ?_ ?side | refine g_fmtS ?_ ?side | refine g_iList ?_ | refine g_iTup ?_ | refine g_iStr ?_ | refine g_iStrE ?_ | refine g_iRng1 ?_ | refine g_iRng1E ?_ ?side1 ?side2 | refine g_yes ?_ | refine g_ckw ?_ | refine g_dget ?_ | refine g_dictZip ?_ | refine g_gCons ?_ | refine g_gNil ?_ | refine g_revL ?_ | refine g_for ?_ | refine g_lc ?_ | refine g_addS ?_ ?side | refine g_str ?_ ?side | refine g_lenS ?_ ?side
  | refine g_rI0 ?_ | refine g_rI ?_ ?side | refine g_rU ?_ | refine g_abs ?_ | refine g_int ?_ | refine g_intB ?_ | refine g_gcd ?_ | refine g_inS ?_ | refine g_isN0 ?_ | refine g_notN0 ?_
  | fail)
local macro_rules | `(tactic| walk_at "s1") => `(tactic| first
  | ((with_reducible refine' g_var ?h ?_); (case h => exact rfl))
  | ((with_reducible refine' g_new ?h ?_); (case h => exact (by simp only [List.length_cons, List.length_nil]; decide)); intro tnew htnew)
  | ((with_reducible refine' iteDT ?h ?_); (case h => first | exact rfl | assumption))
  | ((with_reducible refine' iteNT ?h ?_); (case h => first | exact rfl | assumption))
  | ((with_reducible refine' iteDF ?h ?_); (case h => first | assumption | (intro z; cases z)))
  | ((with_reducible refine' iteNF ?h ?_); (case h => first | assumption | (intro z; cases z)))
  | ((with_reducible refine' g_eq ?_ ?h); (case h => exact rfl))
  | ((with_reducible refine' g_ne ?_ ?h); (case h => exact rfl))
  | ((with_reducible refine' g_ixT ?_ ?h ?e); (case h => walk_at "hpT"); (case e => first | exact rfl | exact atI_0 | exact atI_1))
  | ((with_reducible refine' g_ixL ?_ ?h ?e); (case h => walk_at "hpL"); (case e => first | exact rfl | exact atI_0 | exact atI_1))
  | ((with_reducible refine' g_isi_int ?_ ?h); (case h => walk_at "kit"))
  | ((with_reducible refine' g_isi_str ?_ ?h); (case h => walk_at "kit"))
  | ((with_reducible refine' g_isi_bl ?_ ?h); (case h => walk_at "kit"))
  | ((with_reducible refine' g_isi_non ?_ ?h); (case h => walk_at "kit"))
  | ((with_reducible refine' g_isi_t ?_ ?t ?h); (case t => walk_at "hpT"); (case h => walk_at "kit"))
  | ((with_reducible refine' g_isi_l ?_ ?t ?h ?l); (case l => walk_at "hpH"); (case t => walk_at "hpL"); (case h => walk_at "kit"))
  | ((with_reducible refine' g_lenT ?_ ?h); (case h => walk_at "hpT"))
  | ((with_reducible refine' g_lenL ?_ ?h); (case h => walk_at "hpL"))
  | ((with_reducible refine' g_split ?_ ?h ?side); (case h => exact rfl); intro pnew hpnew)
  | ((with_reducible refine' g_slL ?h ?_); (case h => walk_at "hpL"); intro pnew hpnew)
  | ((with_reducible refine' g_iListE ?_ ?h); (case h => walk_at "hpL"))
  | ((with_reducible refine' g_iTupE ?_ ?h); (case h => walk_at "hpT"))
  | ((with_reducible refine' g_tyL ?_ ?h); (case h => walk_at "hpL"))
  | ((with_reducible refine' g_join ?_ ?h ?side); (case h => walk_at "hpL"))
  | ((with_reducible refine' g_append ?_ ?h ?side); (case h => walk_at "hpH"))
  | ((with_reducible refine' g_all ?_ ?h); (case h => walk_at "hpL"))
  | ((with_reducible refine' g_gTup ?_ ?h ?n); (case h => walk_at "hpT"); (case n => exact rfl))
  | ((with_reducible refine' g_revLE ?h ?_); (case h => walk_at "hpL"); intro pnew hpnew)
  | ((with_reducible refine' g_isN1 ?_ ?h); (case h => first | assumption | (intro z; cases z)))
  | ((with_reducible refine' g_notN1 ?_ ?h); (case h => first | assumption | (intro z; cases z)))
  | walk_at "call"
  | ((with_reducible refine' iteBT ?h ?_); (case h => first | assumption | exact rfl))
  | ((with_reducible refine' iteBF ?h ?_); (case h => first | assumption | exact rfl))
  | fail)
local macro_rules | `(tactic| walk_at "nrm") => `(tactic| simp only [Bool.not_true, Bool.not_false, decide_eq_true_eq, decide_true, decide_false, Bool.true_and, Bool.false_and, Bool.and_true, Bool.and_false, V.int.injEq, V.bl.injEq, V.str.injEq, List.length_cons, List.length_nil, Bool.not_eq_true', decide_eq_false_iff_not, Int.not_lt, Int.not_le, reduceCtorEq, not_false_eq_true, not_true_eq_false, Decidable.not_not] at *)
local macro_rules | `(tactic| walk_at "sp") => `(tactic| ((with_reducible refine ite2 (fun c => ?_) (fun c => ?_)) <;> (try simp only [decide_eq_true_eq, Bool.not_eq_true', decide_eq_false_iff_not, V.int.injEq, V.bl.injEq, V.str.injEq, Int.not_lt, Int.not_le, reduceCtorEq, Decidable.not_not, Bool.false_eq_true, Bool.true_eq_false] at c) <;> (try (exfalso; omega))))
local macro_rules | `(tactic| walk_at "s") => `(tactic| first | walk_at "s0" | walk_at "s1" | fail)
local macro_rules | `(tactic| walk_at "go") => `(tactic| (try dsimp only [cxK, cxK']); repeat' walk_at "s")
local macro_rules | `(tactic| walk_at "gos") => `(tactic| ((try dsimp only [cxK, cxK']); repeat' (first | walk_at "s" | walk_at "sp" | fail)))

local macro_rules | `(tactic| walk_at "hpNo") => `(tactic| with_reducible first
  | assumption
  | (refine' Nm.ofPr ?hq; (case hq => assumption))
  | (refine' Nm.same (same_new (by assumption)) ?hq; (case hq => walk_at "hpNo"))
  | (refine' Nm.same (by assumption) ?hq; (case hq => walk_at "hpNo"))
  | fail)
local macro_rules | `(tactic| walk_at "hpN") => `(tactic| with_reducible first
  | walk_at "hpNo"
  | (refine' Nm.of ?hq; (case hq => walk_at "hpH"))
  | fail)
local macro_rules | `(tactic| walk_at "hpPo") => `(tactic| with_reducible first
  | assumption
  | (refine' Pr.same (same_new (by assumption)) ?hq; (case hq => walk_at "hpPo"))
  | (refine' Pr.same (by assumption) ?hq; (case hq => walk_at "hpPo"))
  | fail)
local macro_rules | `(tactic| walk_at "hpP") => `(tactic| with_reducible first
  | walk_at "hpPo"
  | (refine' Pr.of ?hq; (case hq => walk_at "hpH"))
  | fail)
local macro_rules | `(tactic| walk_at "hpDo") => `(tactic| with_reducible first
  | assumption
  | exact Dq.int _ | exact Dq.bl _ | exact Dq.str _ | exact Dq.non
  | (refine' Dq.same (same_new (by assumption)) ?hq; (case hq => walk_at "hpDo"))
  | (refine' Dq.same (by assumption) ?hq; (case hq => walk_at "hpDo"))
  | fail)
local macro_rules | `(tactic| walk_at "hpD") => `(tactic| with_reducible first
  | walk_at "hpDo"
  | fail)

local macro_rules | `(tactic| walk_at "hpM") => `(tactic| with_reducible first
  | assumption
  | (refine' mk_new ?hn ?hB; (case hn => assumption); (case hB => walk_at "hpB"))
  | (refine' mk_tup ?hn ?hB; (case hn => assumption); (case hB => walk_at "hpB"))
  | (refine' same_at (mk_upd (by assumption)) ?hq; (case hq => walk_at "hpM"))
  | (refine' same_at (show Same (delH _ _) (delH _ _) by assumption) ?hq; (case hq => walk_at "hpM"))
  | (refine' same_at (mk_mono (by assumption)) ?hq; (case hq => walk_at "hpM"))
  | fail)
local macro_rules | `(tactic| walk_at "hpSM") => `(tactic| with_reducible first
  | exact Same.refl _
  | assumption
  | (refine' Same.trans ?hq (mk_upd (by assumption)); (case hq => walk_at "hpSM"))
  | (refine' Same.trans ?hq (show Same (delH _ _) (delH _ _) by assumption); (case hq => walk_at "hpSM"))
  | (refine' Same.trans ?hq (mk_mono (by assumption)); (case hq => walk_at "hpSM"))
  | fail)
local macro_rules | `(tactic| walk_at "hpB") => `(tactic| with_reducible first
  | assumption
  | (refine' bag_upd ?hq (by assumption); (case hq => walk_at "hpB"))
  | (refine' bag_same ?hq (by assumption); (case hq => walk_at "hpB"))
  | fail)
local macro_rules | `(tactic| walk_at "hpHo") => `(tactic| with_reducible first
  | assumption
  | exact upd_same
  | (refine' same_at (same_new (by assumption)) ?hq; (case hq => walk_at "hpHo"))
  | (refine' same_at (by assumption) ?hq; (case hq => walk_at "hpHo"))
  | fail)
local macro_rules | `(tactic| walk_at "hpH") => `(tactic| with_reducible first
  | walk_at "hpHo"
  | (refine' same_at mk_same ?hq; (case hq => walk_at "hpM"))
  | fail)
local macro_rules | `(tactic| walk_at "hpNo") => `(tactic| with_reducible first
  | assumption
  | (refine' Nm.ofPr ?hq; (case hq => assumption))
  | (refine' Nm.same (same_new (by assumption)) ?hq; (case hq => walk_at "hpNo"))
  | (refine' Nm.same (by assumption) ?hq; (case hq => walk_at "hpNo"))
  | fail)
local macro_rules | `(tactic| walk_at "hpNMo") => `(tactic| with_reducible first
  | assumption
  | (refine' Nm.ofPr ?hq; (case hq => assumption))
  | (refine' Nm.same (mk_upd (by assumption)) ?hq; (case hq => walk_at "hpNMo"))
  | (refine' Nm.same (show Same (delH _ _) (delH _ _) by assumption) ?hq; (case hq => walk_at "hpNMo"))
  | (refine' Nm.same (mk_mono (by assumption)) ?hq; (case hq => walk_at "hpNMo"))
  | fail)
local macro_rules | `(tactic| walk_at "hpNM") => `(tactic| with_reducible first
  | walk_at "hpNMo"
  | (refine' Nm.of ?hq; (case hq => walk_at "hpM"))
  | fail)
local macro_rules | `(tactic| walk_at "hpN") => `(tactic| with_reducible first
  | walk_at "hpNo"
  | (refine' Nm.same mk_same ?hq; (case hq => walk_at "hpNMo"))
  | (refine' Nm.of ?hq; (case hq => walk_at "hpH"))
  | fail)
local macro_rules | `(tactic| walk_at "hpPo") => `(tactic| with_reducible first
  | assumption
  | (refine' Pr.same (same_new (by assumption)) ?hq; (case hq => walk_at "hpPo"))
  | (refine' Pr.same (by assumption) ?hq; (case hq => walk_at "hpPo"))
  | fail)
local macro_rules | `(tactic| walk_at "hpPMo") => `(tactic| with_reducible first
  | assumption
  | (refine' Pr.same (mk_upd (by assumption)) ?hq; (case hq => walk_at "hpPMo"))
  | (refine' Pr.same (show Same (delH _ _) (delH _ _) by assumption) ?hq; (case hq => walk_at "hpPMo"))
  | (refine' Pr.same (mk_mono (by assumption)) ?hq; (case hq => walk_at "hpPMo"))
  | fail)
local macro_rules | `(tactic| walk_at "hpPM") => `(tactic| with_reducible first
  | walk_at "hpPMo"
  | (refine' Pr.of ?hq; (case hq => walk_at "hpM"))
  | fail)
local macro_rules | `(tactic| walk_at "hpP") => `(tactic| with_reducible first
  | walk_at "hpPo"
  | (refine' Pr.same mk_same ?hq; (case hq => walk_at "hpPMo"))
  | (refine' Pr.of ?hq; (case hq => walk_at "hpH"))
  | fail)
local macro_rules | `(tactic| walk_at "hpDo") => `(tactic| with_reducible first
  | assumption
  | exact Dq.int _ | exact Dq.bl _ | exact Dq.str _ | exact Dq.non
  | (refine' Dq.same (same_new (by assumption)) ?hq; (case hq => walk_at "hpDo"))
  | (refine' Dq.same (by assumption) ?hq; (case hq => walk_at "hpDo"))
  | fail)
local macro_rules | `(tactic| walk_at "hpDMo") => `(tactic| with_reducible first
  | assumption
  | exact Dq.int _ | exact Dq.bl _ | exact Dq.str _ | exact Dq.non
  | (refine' Dq.same (mk_upd (by assumption)) ?hq; (case hq => walk_at "hpDMo"))
  | (refine' Dq.same (show Same (delH _ _) (delH _ _) by assumption) ?hq; (case hq => walk_at "hpDMo"))
  | (refine' Dq.same (mk_mono (by assumption)) ?hq; (case hq => walk_at "hpDMo"))
  | fail)
local macro_rules | `(tactic| walk_at "hpDM") => `(tactic| with_reducible first
  | walk_at "hpDMo"
  | fail)
local macro_rules | `(tactic| walk_at "hpD") => `(tactic| with_reducible first
  | walk_at "hpDo"
  | (refine' Dq.same mk_same ?hq; (case hq => walk_at "hpDMo"))
  | fail)
local macro_rules | `(tactic| walk_at "call") => `(tactic| first
  | ((with_reducible refine' sp_draw ?_ ?h ?side1 ?side2); (case h => walk_at "hpB"); intro idraw Hd' hi0 hi1 sd' bd')
  | fail)

local macro_rules | `(tactic| walk_at "call") => `(tactic| first
  | ((with_reducible refine' sp_draw ?_ ?h ?side1 ?side2 ?side3); (case h => walk_at "hpB"); intro idraw Hd' hi0 hi1 sd' bd')
  | fail)
section
variable {P : Program} {w : World} {K : Fg} {mg : Str → Option Value} {base : Heap} {f f1 f2 f3 : Addr} {fd : FuncData}
theorem ok_l_any (F : Fun K "_law_any" "_law_any" s_l_any f fd) (T : Blt mg) (D_l_draw : Df P w K mg base 1 "_law_draw" f1 ["_law_bag_here", "_law_many_y"] spDraw) (D_l_spots : Df P w K mg base 3 "_law_spots" f3 ["_law_bag_here", "_law_m"] spSpots) (D_l_heights : Df P w K mg base 3 "_law_heights" f2 ["_law_bag_here"] spHeights) : FnOk P w K mg base CX0 4 f fd ["_law_bag_here"] spAny := by
  obtain ⟨_, G_l_draw, B_l_draw⟩ := D_l_draw.ok
  obtain ⟨_, G_l_spots, B_l_spots⟩ := D_l_spots.ok
  obtain ⟨_, G_l_heights, B_l_heights⟩ := D_l_heights.ok
  refine F.ok sc_l_any (fun vs H Q E h => ?_) (fun cdv A outer s H vs Q E hr h => ?_)
  · obtain ⟨N, b, c, rfl, _⟩ := h
    rfl
  · obtain ⟨N, b, c, rfl, B, hN, k⟩ := h
    refine ⟨_, (pss_cons (ps_set (i := 1) sc_l_any.nd rfl (.inl rfl) (pe_op op_add pe_int (pe_call G_l_draw (hr.mono (by decide)) (by rfl) D_l_draw.g D_l_draw.kp B_l_draw .nil pass0 (pa_cons (pv 0) (pa_cons pe_int pa_nil)))))
      (pss_cons (ps_par (i := 2) (j := 3) rfl sc_l_any.nd rfl rfl (by decide) rfl rfl (pa_cons (pe_call G_l_spots (hr.mono (by decide)) (by rfl) D_l_spots.g D_l_spots.kp B_l_spots .nil pass0 (pa_cons (pv 0) (pa_cons (pv 1) pa_nil))) (pa_cons (pe_call G_l_spots (hr.mono (by decide)) (by rfl) D_l_spots.g D_l_spots.kp B_l_spots .nil pass0 (pa_cons (pv 0) (pa_cons (pv 1) pa_nil))) pa_nil)) rfl)
      (pss_cons (ps_set (i := 4) sc_l_any.nd rfl (.inl rfl) (pe_call G_l_draw (hr.mono (by decide)) (by rfl) D_l_draw.g D_l_draw.kp B_l_draw .nil pass0 (pa_cons (pv 0) (pa_cons pe_int pa_nil))))
      (pss_cons (ps_if (pt_cmpR op_eq (pv 4) pe_int (nomark _))
      (pss_one (ps_set (i := 2) sc_l_any.nd rfl (.inl rfl) (pe_slice sl_list (pv 2) po_none (po_some (pe_un un_neg pe_int))))) pss_nil)
      (pss_cons (ps_if (pt_cmpR op_eq (pv 4) pe_int (nomark _))
      (pss_one (ps_set (i := 3) sc_l_any.nd rfl (.inl rfl) (pe_op op_cat (pv 3) (pe_lst (pa_cons (pe_tup (pa_cons (pe_tup (pa_cons pe_int (pa_cons pe_int pa_nil))) (pa_cons (pe_tup (pa_cons pe_int (pa_cons pe_int pa_nil))) pa_nil))) pa_nil))))) pss_nil)
      (pss_cons (ps_if (pt_cmpR op_eq (pv 4) pe_int (nomark _))
      (pss_cons (ps_set (i := 5) sc_l_any.nd rfl (.inl rfl) (pe_call G_l_draw (hr.mono (by decide)) (by rfl) D_l_draw.g D_l_draw.kp B_l_draw .nil pass0 (pa_cons (pv 0) (pa_cons pe_int pa_nil))))
      (pss_one (ps_par (i := 2) (j := 3) rfl sc_l_any.nd rfl rfl (by decide) rfl rfl (pa_cons (pe_slice sl_list (pv 2) po_none (po_some (pv 5))) (pa_cons (pe_slice sl_list (pv 3) po_none (po_some (pv 5))) pa_nil)) rfl))) pss_nil)
      (pss_cons (ps_if (pt_cmpR op_eq (pv 4) pe_int (nomark _))
      (pss_one (ps_set (i := 3) sc_l_any.nd rfl (.inl rfl) (pe_lst pa_nil))) pss_nil)
      (pss_cons (ps_asg (pe_call G_l_heights (hr.mono (by decide)) (by rfl) D_l_heights.g D_l_heights.kp B_l_heights .nil pass0 (pa_cons (pv 0) pa_nil)) (pg_tup rfl (pgs_cons (pg_name (i := 6) sc_l_any.nd rfl (.inl rfl)) (pgs_cons (pg_name (i := 7) sc_l_any.nd rfl (.inl rfl)) pgs_nil))))
      (pss_cons (ps_if (pt_cmpR op_eq (pv 4) pe_int (nomark _))
      (pss_one (ps_set (i := 7) sc_l_any.nd rfl (.inl rfl) (pv 6))) pss_nil)
      (pss_one (ps_ret (pe_tup (pa_cons (pv 2) (pa_cons (pv 6) (pa_cons (pv 3) (pa_cons (pv 7) pa_nil)))))))))))))))), ?_⟩
    repeat (first | (fail_if_success (with_reducible refine g_ifS ?_)); walk_at "s")
    any_goals omega
    rename_i m H1 m0 m1 s1 B1
    obtain ⟨n, rfl⟩ := Int.eq_ofNat_of_zero_le m0
    refine ⟨_, b, c, 3 + n, rfl, B1, by omega, by omega, fun l1 xs1 ss1 H2 s2 B2 n1 nc1 _ h1 d1 sm1 e1 => ?_⟩
    have L1 := SpL.mk B2 n1 h1 d1 sm1 (by omega)
    repeat (first | (fail_if_success (with_reducible refine g_ifS ?_)); walk_at "s")
    refine ⟨_, b, c, 3 + n, rfl, B2, by omega, by omega, fun l2 xs2 ss2 H3 s3 B3 n2 nc2 _ h2 d2 sm2 e2 => ?_⟩
    have L2 := SpL.mk B3 n2 h2 d2 sm2 (by omega)
    have L1 := L1.bag s3
    have s03 := s1.trans (s2.trans s3)
    clear h1 d1 sm1 e1 s1 s2 s3 B1 B2 h2 d2 sm2 B
    repeat (first | (fail_if_success (with_reducible refine g_ifS ?_)); walk_at "s")
    any_goals omega
    rename_i way H4 w0 w1 s4 B4
    have L1 := L1.bag s4
    have L2 := L2.bag s4
    have s04 := s03.trans s4
    have lt7 : ss2.length ≤ 7 := by omega
    clear s4 B3 s03 w0 w1
    let R : Nat → Nat → Sg → Hp → Prop := fun k m σ' H' => ∃ (l1 l2 : Addr) (v5 : Option V) (ss ts : List Sp2), σ' = [some (.ref b), some (.int (3 + n)), some (.ref l1), some (.ref l2), some (.int way), v5, none, none] ∧ Same (delH H b) (delH H' b) ∧ Bag (N - k) H' b c ∧ SpL b H' l1 ss ∧ SpL b H' l2 ts ∧ ts.length ≤ m
    refine join_S (R 170 7) (fun nx' jn => ?_) (fun σ' H5 h5 => ?_)
    · obtain ⟨xs, hx, hl⟩ := L1.at_
      walk_at "go"
      by_cases cw : V.int way = V.int 0
      · refine iteT' (decide_eq_true cw) ?_
        walk_at "go"
        rename_i p np
        obtain ⟨ss', L'⟩ := L1.cut B4 hx np (-1)
        exact jn _ _ ⟨p, l2, _, _, _, rfl, s04.trans (mk_upd np), (bag_upd B4 np).le (by omega), L', L2.bag (mk_upd np), lt7⟩
      · refine iteF' (decide_eq_false cw) ?_
        walk_at "go"
        exact jn _ _ ⟨l1, l2, _, _, _, rfl, s04, B4.le (by omega), L1, L2, lt7⟩
    obtain ⟨l1, l2, v5, ss1, ss2, rfl, s05, B5, L1, L2, lt7⟩ := h5
    clear s04 B4
    walk_at "s"
    refine join_S (R 171 8) (fun nx' jn => ?_) (fun σ' H6 h6 => ?_)
    · obtain ⟨xs, hx, hl⟩ := L2.at_
      walk_at "go"
      by_cases cw : V.int way = V.int 1
      · refine iteT' (decide_eq_true cw) ?_
        walk_at "go"
        rename_i t1 nt1 t2 nt2 t3 nt3 t4 nt4
        have s1 := same_new (o := .tup [.int 1, .int 2]) nt1
        have s2 := same_new (o := .tup [.int 0, .int 1]) nt2
        have s3 := same_new (o := .tup [.ref t1, .ref t2]) nt3
        have s4 := same_new (o := .lst [.ref t3]) nt4
        have q3 := (Dq.tup (s4 _ _ upd_same) (.cons (Pr.dq (q := (1, 2)) ⟨t1, rfl, s4 _ _ (s3 _ _ (s2 _ _ upd_same))⟩) (.cons (Pr.dq (q := (0, 1)) ⟨t2, rfl, s4 _ _ (s3 _ _ upd_same)⟩) .nil)) : Dq _ (.ref t3) (spD ((1, 2), (0, 1))))
        have h4 := upd_same (H := upd (upd (upd H5 t1 (.tup [.int 1, .int 2])) t2 (.tup [.int 0, .int 1])) t3 (.tup [.ref t1, .ref t2])) (a := t4) (o := .lst [.ref t3])
        have s14 := (s1.trans s2).trans (s3.trans s4)
        generalize upd (upd (upd (upd H5 t1 (.tup [.int 1, .int 2])) t2 (.tup [.int 0, .int 1])) t3 (.tup [.ref t1, .ref t2])) t4 (.lst [.ref t3]) = H9 at s14 q3 h4
        clear s1 s2 s3 s4 nt1 nt2 nt3 nt4
        have B9 := B5.same s14
        refine g_catK (fun p np => ?_) (s14 _ _ hx) h4 (by show xs.length + 1 ≤ 100000; omega)
        walk_at "go"
        have L1 := L1.bag (mk_mono s14)
        have L2 := L2.bag (mk_mono s14)
        obtain ⟨xs', n', e', d', r', hl'⟩ := id L2
        obtain rfl : xs = xs' := by
          have := (s14 _ _ hx).symm.trans e'
          cases this
          rfl
        have hb : ∃ zs, H9 b = some (.lst zs) := by
          obtain ⟨_, _, _, _, _, _, hb, _⟩ := B9
          exact ⟨_, hb⟩
        obtain ⟨_, hb⟩ := hb
        have dd : DqAll (delH H9 b) (xs ++ [.ref t3]) ((ss2 ++ [(((1, 2), (0, 1)) : Sp2)]).map spD) := by
          rw [List.map_append]
          exact DqAll.app d' ((DqAll.cons q3 .nil).dels hb rfl)
        refine jn _ _ ⟨l1, p, _, _, _, rfl, s05.trans ((mk_mono s14).trans (mk_upd np)), (bag_upd B9 np).le (by omega), L1.bag (mk_upd np), ⟨_, (B9.free np).1, upd_same, dd.same (mk_upd np), fun s hs => ?_, by rw [List.length_append]; show ss2.length + 1 ≤ 8; omega⟩, by rw [List.length_append]; show ss2.length + 1 ≤ 8; omega⟩
        rcases List.mem_append.mp hs with hs | hs
        · exact r' s hs
        · rw [List.mem_singleton.mp hs]
          exact ⟨⟨⟨by decide, by decide⟩, by decide, by decide⟩, ⟨⟨by decide, by decide⟩, by decide, by decide⟩⟩
      · refine iteF' (decide_eq_false cw) ?_
        walk_at "go"
        exact jn _ _ ⟨l1, l2, _, _, _, rfl, s05, B5.le (by omega), L1, L2, by omega⟩
    obtain ⟨l1, l2, v5, ss1, ss2, rfl, s06, B6, L1, L2, lt8⟩ := h6
    clear s05 B5
    walk_at "s"
    refine join_S (R 173 8) (fun nx' jn => ?_) (fun σ' H7 h7 => ?_)
    · walk_at "go"
      by_cases cw : V.int way = V.int 2
      · refine iteT' (decide_eq_true cw) ?_
        walk_at "go"
        any_goals omega
        rename_i short H7 h0 h1 s7 B7
        have L1 := L1.bag s7
        have L2 := L2.bag s7
        obtain ⟨xs, hx, _⟩ := L1.at_
        obtain ⟨ys, hy, _⟩ := L2.at_
        refine g_slL (SqL.of hx) fun p np => ?_
        obtain ⟨ss', L'⟩ := L1.cut B7 hx np short
        have L2 := L2.bag (mk_upd (o := .lst (cutV xs none (some short))) np)
        have hy := same_new (o := .lst (cutV xs none (some short))) np _ _ hy
        have B7 := bag_upd (o := .lst (cutV xs none (some short))) B7 np
        have s7 := s7.trans (mk_upd (o := .lst (cutV xs none (some short))) np)
        generalize upd H7 p (.lst (cutV xs none (some short))) = H8 at L' L2 hy B7 s7
        walk_at "go"
        rename_i q nq
        obtain ⟨ts', M'⟩ := L2.cut B7 hy nq short
        exact jn _ _ ⟨p, q, _, _, _, rfl, s06.trans (s7.trans (mk_upd nq)), (bag_upd B7 nq).le (by omega), L'.bag (mk_upd nq), M', M'.len⟩
      · refine iteF' (decide_eq_false cw) ?_
        walk_at "go"
        exact jn _ _ ⟨l1, l2, _, _, _, rfl, s06, B6.le (by omega), L1, L2, lt8⟩
    obtain ⟨l1, l2, v5, ss1, ss2, rfl, s07, B7, L1, L2, lt8⟩ := h7
    clear s06 B6
    walk_at "s"
    refine join_S (R 174 8) (fun nx' jn => ?_) (fun σ' H8 h8 => ?_)
    · walk_at "go"
      by_cases cw : V.int way = V.int 3
      · refine iteT' (decide_eq_true cw) ?_
        walk_at "go"
        rename_i p np
        exact jn _ _ ⟨l1, p, _, _, [], rfl, s07.trans (mk_upd np), (bag_upd B7 np).le (by omega), L1.bag (mk_upd np), ⟨[], (B7.free np).1, upd_same, .nil, (fun s h => by cases h), by decide⟩, by decide⟩
      · refine iteF' (decide_eq_false cw) ?_
        walk_at "go"
        exact jn _ _ ⟨l1, l2, _, _, _, rfl, s07, B7.le (by omega), L1, L2, lt8⟩
    obtain ⟨l1, l2, v5, ss1, ss2, rfl, s08, B8, L1, L2, _⟩ := h8
    clear s07 B7
    walk_at "go"
    refine ⟨_, b, c, rfl, B8, by omega, fun th p q H9 s9 B9 hth zp zq => ?_⟩
    have L1 := L1.bag s9
    have L2 := L2.bag s9
    have s09 := s08.trans s9
    cases hth with
    | tup hh rr =>
    cases rr with
    | cons r1 rr =>
    cases rr with
    | cons r2 rr =>
    cases rr
    rename_i u1 u2
    have hth' := mk_same _ _ hh
    refine gm_pairS _ _ _ (fun σ' H' => σ' = [some (.ref b), some (.int (3 + n)), some (.ref l1), some (.ref l2), some (.int way), v5, some u1, some u2] ∧ H' = H9) _ (fun σ' H' h => ?_) ?_
    · obtain ⟨rfl, rfl⟩ := h
      by_cases cw : V.int way = V.int 4
      · walk_at "go"
        rename_i t nt
        exact k t l1 l2 u1 u1 ss1 ss2 p p _ (s09.trans (mk_upd nt)) ((bag_upd B9 nt).le (by omega)) upd_same (L1.bag (mk_upd nt)) (L2.bag (mk_upd nt)) ((dq_pq r1).same (mk_upd nt)) ((dq_pq r1).same (mk_upd nt)) zp zp
      · walk_at "go"
        rename_i t nt
        exact k t l1 l2 u1 u2 ss1 ss2 p q _ (s09.trans (mk_upd nt)) ((bag_upd B9 nt).le (by omega)) upd_same (L1.bag (mk_upd nt)) (L2.bag (mk_upd nt)) ((dq_pq r1).same (mk_upd nt)) ((dq_pq r2).same (mk_upd nt)) zp zq
    · walk_at "go"
      exact ⟨rfl, rfl⟩
end
end Ko

namespace Ko
open PySem L2 PySem.Spec PyProof.Rows Xm
theorem prism3 (x0 y0 x1 y1 x2 y2 u v p q : Int) : vol6 [(x0, y0, p), (x1, y1, p), (x2, y2, p), (x0 + u, y0 + v, q), (x1 + u, y1 + v, q), (x2 + u, y2 + v, q)] (loftF 3) = 3 * area2 [(x0, y0), (x1, y1), (x2, y2)] 3 * (q - p) := by
  have e1 : vol6 [(x0, y0, p), (x1, y1, p), (x2, y2, p), (x0 + u, y0 + v, q), (x1 + u, y1 + v, q), (x2 + u, y2 + v, q)] (loftF 3) = det3 (x0, y0, p) (x1, y1, p) (x1 + u, y1 + v, q) + (det3 (x0, y0, p) (x1 + u, y1 + v, q) (x0 + u, y0 + v, q) + (det3 (x1, y1, p) (x2, y2, p) (x2 + u, y2 + v, q) + (det3 (x1, y1, p) (x2 + u, y2 + v, q) (x1 + u, y1 + v, q) + (det3 (x2, y2, p) (x0, y0, p) (x0 + u, y0 + v, q) + (det3 (x2, y2, p) (x0 + u, y0 + v, q) (x2 + u, y2 + v, q) + (det3 (x0, y0, p) (x2, y2, p) (x1, y1, p) + (det3 (x0 + u, y0 + v, q) (x1 + u, y1 + v, q) (x2 + u, y2 + v, q) + (0)))))))) := rfl
  have e2 : area2 [(x0, y0), (x1, y1), (x2, y2)] 3 = (x2 * y0 - x0 * y2) + ((x0 * y1 - x1 * y0) + ((x1 * y2 - x2 * y1) + (0))) := rfl
  rw [e1, e2]
  simp only [det3]
  grind
theorem prism4 (x0 y0 x1 y1 x2 y2 x3 y3 u v p q : Int) : vol6 [(x0, y0, p), (x1, y1, p), (x2, y2, p), (x3, y3, p), (x0 + u, y0 + v, q), (x1 + u, y1 + v, q), (x2 + u, y2 + v, q), (x3 + u, y3 + v, q)] (loftF 4) = 3 * area2 [(x0, y0), (x1, y1), (x2, y2), (x3, y3)] 4 * (q - p) := by
  have e1 : vol6 [(x0, y0, p), (x1, y1, p), (x2, y2, p), (x3, y3, p), (x0 + u, y0 + v, q), (x1 + u, y1 + v, q), (x2 + u, y2 + v, q), (x3 + u, y3 + v, q)] (loftF 4) = det3 (x0, y0, p) (x1, y1, p) (x1 + u, y1 + v, q) + (det3 (x0, y0, p) (x1 + u, y1 + v, q) (x0 + u, y0 + v, q) + (det3 (x1, y1, p) (x2, y2, p) (x2 + u, y2 + v, q) + (det3 (x1, y1, p) (x2 + u, y2 + v, q) (x1 + u, y1 + v, q) + (det3 (x2, y2, p) (x3, y3, p) (x3 + u, y3 + v, q) + (det3 (x2, y2, p) (x3 + u, y3 + v, q) (x2 + u, y2 + v, q) + (det3 (x3, y3, p) (x0, y0, p) (x0 + u, y0 + v, q) + (det3 (x3, y3, p) (x0 + u, y0 + v, q) (x3 + u, y3 + v, q) + (det3 (x0, y0, p) (x2, y2, p) (x1, y1, p) + (det3 (x0, y0, p) (x3, y3, p) (x2, y2, p) + (det3 (x0 + u, y0 + v, q) (x1 + u, y1 + v, q) (x2 + u, y2 + v, q) + (det3 (x0 + u, y0 + v, q) (x2 + u, y2 + v, q) (x3 + u, y3 + v, q) + (0)))))))))))) := rfl
  have e2 : area2 [(x0, y0), (x1, y1), (x2, y2), (x3, y3)] 4 = (x3 * y0 - x0 * y3) + ((x0 * y1 - x1 * y0) + ((x1 * y2 - x2 * y1) + ((x2 * y3 - x3 * y2) + (0)))) := rfl
  rw [e1, e2]
  simp only [det3]
  grind
theorem prism5 (x0 y0 x1 y1 x2 y2 x3 y3 x4 y4 u v p q : Int) : vol6 [(x0, y0, p), (x1, y1, p), (x2, y2, p), (x3, y3, p), (x4, y4, p), (x0 + u, y0 + v, q), (x1 + u, y1 + v, q), (x2 + u, y2 + v, q), (x3 + u, y3 + v, q), (x4 + u, y4 + v, q)] (loftF 5) = 3 * area2 [(x0, y0), (x1, y1), (x2, y2), (x3, y3), (x4, y4)] 5 * (q - p) := by
  have e1 : vol6 [(x0, y0, p), (x1, y1, p), (x2, y2, p), (x3, y3, p), (x4, y4, p), (x0 + u, y0 + v, q), (x1 + u, y1 + v, q), (x2 + u, y2 + v, q), (x3 + u, y3 + v, q), (x4 + u, y4 + v, q)] (loftF 5) = det3 (x0, y0, p) (x1, y1, p) (x1 + u, y1 + v, q) + (det3 (x0, y0, p) (x1 + u, y1 + v, q) (x0 + u, y0 + v, q) + (det3 (x1, y1, p) (x2, y2, p) (x2 + u, y2 + v, q) + (det3 (x1, y1, p) (x2 + u, y2 + v, q) (x1 + u, y1 + v, q) + (det3 (x2, y2, p) (x3, y3, p) (x3 + u, y3 + v, q) + (det3 (x2, y2, p) (x3 + u, y3 + v, q) (x2 + u, y2 + v, q) + (det3 (x3, y3, p) (x4, y4, p) (x4 + u, y4 + v, q) + (det3 (x3, y3, p) (x4 + u, y4 + v, q) (x3 + u, y3 + v, q) + (det3 (x4, y4, p) (x0, y0, p) (x0 + u, y0 + v, q) + (det3 (x4, y4, p) (x0 + u, y0 + v, q) (x4 + u, y4 + v, q) + (det3 (x0, y0, p) (x2, y2, p) (x1, y1, p) + (det3 (x0, y0, p) (x3, y3, p) (x2, y2, p) + (det3 (x0, y0, p) (x4, y4, p) (x3, y3, p) + (det3 (x0 + u, y0 + v, q) (x1 + u, y1 + v, q) (x2 + u, y2 + v, q) + (det3 (x0 + u, y0 + v, q) (x2 + u, y2 + v, q) (x3 + u, y3 + v, q) + (det3 (x0 + u, y0 + v, q) (x3 + u, y3 + v, q) (x4 + u, y4 + v, q) + (0)))))))))))))))) := rfl
  have e2 : area2 [(x0, y0), (x1, y1), (x2, y2), (x3, y3), (x4, y4)] 5 = (x4 * y0 - x0 * y4) + ((x0 * y1 - x1 * y0) + ((x1 * y2 - x2 * y1) + ((x2 * y3 - x3 * y2) + ((x3 * y4 - x4 * y3) + (0))))) := rfl
  rw [e1, e2]
  simp only [det3]
  grind
end Ko

namespace Ko
open PySem L2 PySem.Spec PyProof.Rows Xm
theorem clo {m : Nat} (h3 : 3 ≤ m) (h8 : m ≤ 8) : ∀ e ∈ countAll (loftF m), e.2 = 0 := by
  obtain rfl | rfl | rfl | rfl | rfl | rfl : m = 3 ∨ m = 4 ∨ m = 5 ∨ m = 6 ∨ m = 7 ∨ m = 8 := by omega
  all_goals decide +kernel
theorem clo_rows {m : Nat} (h3 : 3 ≤ m) (h8 : m ≤ 8) (ks : List Ed) (h : KeysOf (loftF m) ks) : rowsOf (loftF m) ks = [] := rows_none (clo h3 h8) h
end Ko


namespace Ko
open PySem L2 PySem.Spec PyProof.Rows Xm
/-- a list of spots, beside the bag -/
def LsB (b : Addr) (H : Hp) (l : Addr) (ss : List Sp2) : Prop := ∃ xs, l ≠ b ∧ H l = some (.lst xs) ∧ DqAll (delH H b) xs (ss.map spD)
theorem LsB.bag {b l : Addr} {H H' : Hp} {ss : List Sp2} (h : LsB b H l ss) (s : Same (delH H b) (delH H' b)) : LsB b H' l ss := by
  obtain ⟨xs, n, e, d⟩ := h
  exact ⟨xs, n, mk_same _ _ (s _ _ (mk_at e n)), d.same s⟩
theorem dels_bag {b c : Addr} {N : Nat} {H : Hp} {xs : List V} {ss : List Sp2} (B : Bag N H b c) (d : DqAll H xs (ss.map spD)) : DqAll (delH H b) xs (ss.map spD) := by
  obtain ⟨_, _, _, _, _, _, hb, _⟩ := B
  exact d.dels hb (sps_noL _)
theorem okA : OkD 27720 1000000 69300 := ⟨by decide, by decide +kernel, by decide +kernel, by decide +kernel⟩
theorem okS : OkD 27720 1069300 1000000 := ⟨by decide, by decide +kernel, by decide +kernel, by decide +kernel⟩
theorem okL : OkD 27720 1000000 110880 := ⟨by decide, by decide +kernel, by decide +kernel, by decide +kernel⟩
theorem okM1 : OkD (27720 * 27720 * 2) BA 2069300 := ⟨by decide, by decide +kernel, by decide +kernel, by decide +kernel⟩
theorem okM2 : OkD 27720 BA 2069300 := ⟨by decide, by decide +kernel, by decide +kernel, by decide +kernel⟩
def shift (a b : Int) (z : Z2) : Z2 := (z.1 + a, z.2 + b)
theorem sp_shift {H : Hp} (a b : Int) : ∀ {ys : List V} {zs : List Z2}, ys.length = zs.length → (∀ (i : Nat) v, ys[i]? = some v → ∃ s z, zs[i]? = some z ∧ Dq H v (spD s) ∧ SpOk s ∧ SpR s (shift a b z)) → ∃ ss : List Sp2, ss.length = ys.length ∧ DqAll H ys (ss.map spD) ∧ (∀ s ∈ ss, SpOk s) ∧ Paired SpR ss (zs.map (shift a b))
  | [], [], _, _ => ⟨[], rfl, .nil, (fun s h => by cases h), .nil⟩
  | y :: ys, z :: zs, hl, h => by
    obtain ⟨s, z', e, q, o, r⟩ := h 0 y rfl
    cases e
    obtain ⟨ss, hl, hq, ho, hr⟩ := sp_shift a b (ys := ys) (zs := zs) (by simpa using hl) fun i v e => h (i + 1) v e
    refine ⟨s :: ss, by simp [hl], .cons q hq, fun x hx => ?_, .cons r hr⟩
    rcases List.mem_cons.mp hx with rfl | hx
    · exact o
    · exact ho x hx
  | [], _ :: _, hl, _ => by simp at hl
  | _ :: _, [], hl, _ => by simp at hl
theorem Nr.parts {H : Hp} {v : V} {D N : Int} {B : Nat} (h : Nr H v D B N) : ∃ t q, v = .ref t ∧ H t = some (.tup [.int q.1, .int q.2]) ∧ Is D N q ∧ N.natAbs ≤ B := by
  obtain ⟨q, ⟨t, e, h1⟩, h2, h3⟩ := h
  exact ⟨t, q, e, h1, h2, h3⟩
theorem cn_pair {p : Pq} {n : Int} (i : Is 27720 n p) (b : n.natAbs ≤ BB) {ss : List Sp2} {zs : List Z2} (h : Paired SpR ss zs) : Paired CnR (ss.map fun s => (s.1, s.2, p)) (zs.map fun z => (z.1, z.2, n)) := by
  induction h with
  | nil => exact .nil
  | cons h _ ih => exact .cons ⟨h.1, h.2, i, b⟩ ih
theorem hn_pq {q : Pq} (l : Lo q) : HnN (.pq q) q := ⟨rfl, by
  show (decide (0 < q.2) && decide (Int.gcd q.1 q.2 = 1)) = true
  rw [decide_eq_true l.1, decide_eq_true l.2]
  rfl, rfl⟩
theorem prism_all {zs : List Z2} (h3 : 3 ≤ zs.length) (h5 : zs.length ≤ 5) (u v p q : Int) : vol6 ((zs.map fun z => (z.1, z.2, p)) ++ ((zs.map (shift u v)).map fun z => (z.1, z.2, q))) (loftF zs.length) = 3 * area2 zs zs.length * (q - p) := by
  match zs, h3, h5 with
  | [(x0, y0), (x1, y1), (x2, y2)], _, _ => exact prism3 x0 y0 x1 y1 x2 y2 u v p q
  | [(x0, y0), (x1, y1), (x2, y2), (x3, y3)], _, _ => exact prism4 x0 y0 x1 y1 x2 y2 x3 y3 u v p q
  | [(x0, y0), (x1, y1), (x2, y2), (x3, y3), (x4, y4)], _, _ => exact prism5 x0 y0 x1 y1 x2 y2 x3 y3 x4 y4 u v p q
def spPrism : Sp := fun vs H Q _ => ∃ (N : Nat) (b c : Addr), vs = [.ref b] ∧ Bag N H b c ∧ 100 ≤ N ∧ ∀ H', Same (delH H b) (delH H' b) → Bag (N - 100) H' b c → Q (.bl true) H'

local macro_rules | `(tactic| walk_at "hpS") => `(tactic| with_reducible first
  | exact Same.refl _
  | assumption
  | (refine' Same.trans ?hq (same_new (by assumption)); (case hq => walk_at "hpS"))
  | (refine' Same.trans ?hq (by assumption); (case hq => walk_at "hpS"))
  | fail)
local macro_rules | `(tactic| walk_at "hpH") => `(tactic| with_reducible first
  | assumption
  | exact upd_same
  | (refine' same_at (same_new (by assumption)) ?hq; (case hq => walk_at "hpH"))
  | (refine' same_at (by assumption) ?hq; (case hq => walk_at "hpH"))
  | fail)
local macro_rules | `(tactic| walk_at "hpTo") => `(tactic| with_reducible first
  | assumption
  | (refine' sq_t (same_new (by assumption)) ?hq; (case hq => walk_at "hpTo"))
  | (refine' sq_t (by assumption) ?hq; (case hq => walk_at "hpTo"))
  | fail)
local macro_rules | `(tactic| walk_at "hpT") => `(tactic| with_reducible first
  | (refine' SqT.of ?hq; (case hq => walk_at "hpH"))
  | walk_at "hpTo"
  | fail)
local macro_rules | `(tactic| walk_at "hpLo") => `(tactic| with_reducible first
  | assumption
  | (refine' sq_l (same_new (by assumption)) ?hq; (case hq => walk_at "hpLo"))
  | (refine' sq_l (by assumption) ?hq; (case hq => walk_at "hpLo"))
  | fail)
local macro_rules | `(tactic| walk_at "hpL") => `(tactic| with_reducible first
  | (refine' SqL.of ?hq; (case hq => walk_at "hpH"))
  | walk_at "hpLo"
  | fail)
local macro_rules | `(tactic| walk_at "kit") => `(tactic| with_reducible first
  | exact kit_int_bool | exact kit_int_int | exact kit_int_tuple | exact kit_int_list | exact kit_int_str
  | exact kit_tuple_tuple | exact kit_tuple_int | exact kit_tuple_bool | exact kit_tuple_list | exact kit_tuple_str
  | exact kit_bool_bool | exact kit_bool_int | exact kit_bool_tuple | exact kit_bool_list | exact kit_bool_str
  | exact kit_str_str | exact kit_str_int | exact kit_str_bool | exact kit_str_tuple | exact kit_str_list
  | exact kit_NoneType_int | exact kit_NoneType_bool | exact kit_NoneType_tuple | exact kit_NoneType_list | exact kit_NoneType_str
  | exact kit_list_list | exact kit_list_tuple | exact kit_list_int | exact kit_list_bool | exact kit_list_str
  | fail)
local macro_rules | `(tactic| walk_at "call") => `(tactic| fail)
local macro_rules | `(tactic| walk_at "s0") => `(tactic| with_reducible first
  | refine g_seq ?_ | refine g_asg ?_ | refine g_name ?_ | refine g_ifS ?_ | refine g_ret ?_ | refine g_retN ?_ | refine g_next ?_
  | refine g_par ?_ | refine g_parE ?_ | refine g_drop ?_
  | refine g_c ?_ | refine g_op ?_ | refine g_un ?_ | refine g_cb ?_ | refine g_call ?_ | refine g_nil ?_ | refine g_cons ?_ | refine g_tup ?_ | refine g_lst ?_
  | refine g_test ?_ | refine g_B ?_ | refine g_blF ?_ | refine g_and ?_ | refine g_or ?_ | refine g_not ?_ | refine g_andV ?_ | refine g_orV ?_ | refine g_notV ?_ | refine g_if ?_
  | refine iteT ?_ | refine iteF ?_
  | refine g_chain ?_ | refine g_sl ?_ | refine g_noPart ?_ | refine g_part ?_ | refine g_partI ?_ | refine g_slS ?_ ?side | refine g_M1 ?_ | refine g_M1s ?_ | refine g_starts ?_ | refine g_bm ?_ | refine g_bm0 ?_ | refine g_tyS ?_
  | refine g_Fs ?_ | refine g_JsN ?_ | refine g_JsC ?_ | refine g_JsE ?_ ?side | refine g_fmt ?_ | refine g_fmtI ?_ ?side | refine g_fmtS ?_ ?side | refine g_iList ?_ | refine g_iTup ?_ | refine g_iStr ?_ | refine g_iStrE ?_ | refine g_iRng1 ?_ | refine g_iRng1E ?_ ?side1 ?side2 | refine g_yes ?_ | refine g_ckw ?_ | refine g_dget ?_ | refine g_dictZip ?_ | refine g_gCons ?_ | refine g_gNil ?_ | refine g_revL ?_ | refine g_for ?_ | refine g_lc ?_ | refine g_addS ?_ ?side | refine g_str ?_ ?side | refine g_lenS ?_ ?side
  | refine g_rI0 ?_ | refine g_rI ?_ ?side | refine g_rU ?_ | refine g_abs ?_ | refine g_int ?_ | refine g_intB ?_ | refine g_gcd ?_ | refine g_inS ?_ | refine g_isN0 ?_ | refine g_notN0 ?_
  | fail)
local macro_rules | `(tactic| walk_at "s1") => `(tactic| first
  | ((with_reducible refine' g_var ?h ?_); (case h => exact rfl))
  | ((with_reducible refine' g_new ?h ?_); (case h => exact (by simp only [List.length_cons, List.length_nil]; decide)); intro tnew htnew)
  | ((with_reducible refine' iteDT ?h ?_); (case h => first | exact rfl | assumption))
  | ((with_reducible refine' iteNT ?h ?_); (case h => first | exact rfl | assumption))
  | ((with_reducible refine' iteDF ?h ?_); (case h => first | assumption | (intro z; cases z)))
  | ((with_reducible refine' iteNF ?h ?_); (case h => first | assumption | (intro z; cases z)))
  | ((with_reducible refine' g_eq ?_ ?h); (case h => exact rfl))
  | ((with_reducible refine' g_ne ?_ ?h); (case h => exact rfl))
  | ((with_reducible refine' g_ixT ?_ ?h ?e); (case h => walk_at "hpT"); (case e => first | exact rfl | exact atI_0 | exact atI_1))
  | ((with_reducible refine' g_ixL ?_ ?h ?e); (case h => walk_at "hpL"); (case e => first | exact rfl | exact atI_0 | exact atI_1))
  | ((with_reducible refine' g_isi_int ?_ ?h); (case h => walk_at "kit"))
  | ((with_reducible refine' g_isi_str ?_ ?h); (case h => walk_at "kit"))
  | ((with_reducible refine' g_isi_bl ?_ ?h); (case h => walk_at "kit"))
  | ((with_reducible refine' g_isi_non ?_ ?h); (case h => walk_at "kit"))
  | ((with_reducible refine' g_isi_t ?_ ?t ?h); (case t => walk_at "hpT"); (case h => walk_at "kit"))
  | ((with_reducible refine' g_isi_l ?_ ?t ?h ?l); (case l => walk_at "hpH"); (case t => walk_at "hpL"); (case h => walk_at "kit"))
  | ((with_reducible refine' g_lenT ?_ ?h); (case h => walk_at "hpT"))
  | ((with_reducible refine' g_lenL ?_ ?h); (case h => walk_at "hpL"))
  | ((with_reducible refine' g_split ?_ ?h ?side); (case h => exact rfl); intro pnew hpnew)
  | ((with_reducible refine' g_slL ?h ?_); (case h => walk_at "hpL"); intro pnew hpnew)
  | ((with_reducible refine' g_iListE ?_ ?h); (case h => walk_at "hpL"))
  | ((with_reducible refine' g_iTupE ?_ ?h); (case h => walk_at "hpT"))
  | ((with_reducible refine' g_tyL ?_ ?h); (case h => walk_at "hpL"))
  | ((with_reducible refine' g_join ?_ ?h ?side); (case h => walk_at "hpL"))
  | ((with_reducible refine' g_append ?_ ?h ?side); (case h => walk_at "hpH"))
  | ((with_reducible refine' g_all ?_ ?h); (case h => walk_at "hpL"))
  | ((with_reducible refine' g_gTup ?_ ?h ?n); (case h => walk_at "hpT"); (case n => exact rfl))
  | ((with_reducible refine' g_revLE ?h ?_); (case h => walk_at "hpL"); intro pnew hpnew)
  | ((with_reducible refine' g_isN1 ?_ ?h); (case h => first | assumption | (intro z; cases z)))
  | ((with_reducible refine' g_notN1 ?_ ?h); (case h => first | assumption | (intro z; cases z)))
  | walk_at "call"
  | ((with_reducible refine' iteBT ?h ?_); (case h => first | assumption | exact rfl))
  | ((with_reducible refine' iteBF ?h ?_); (case h => first | assumption | exact rfl))
  | fail)
local macro_rules | `(tactic| walk_at "nrm") => `(tactic| simp only [Bool.not_true, Bool.not_false, decide_eq_true_eq, decide_true, decide_false, Bool.true_and, Bool.false_and, Bool.and_true, Bool.and_false, V.int.injEq, V.bl.injEq, V.str.injEq, List.length_cons, List.length_nil, Bool.not_eq_true', decide_eq_false_iff_not, Int.not_lt, Int.not_le, reduceCtorEq, not_false_eq_true, not_true_eq_false, Decidable.not_not] at *)
local macro_rules | `(tactic| walk_at "sp") => `(tactic| ((with_reducible refine ite2 (fun c => ?_) (fun c => ?_)) <;> (try simp only [decide_eq_true_eq, Bool.not_eq_true', decide_eq_false_iff_not, V.int.injEq, V.bl.injEq, V.str.injEq, Int.not_lt, Int.not_le, reduceCtorEq, Decidable.not_not, Bool.false_eq_true, Bool.true_eq_false] at c) <;> (try (exfalso; omega))))
local macro_rules | `(tactic| walk_at "s") => `(tactic| first | walk_at "s0" | walk_at "s1" | fail)
local macro_rules | `(tactic| walk_at "go") => `(tactic| (try dsimp only [cxK, cxK']); repeat' walk_at "s")
local macro_rules | `(tactic| walk_at "gos") => `(tactic| ((try dsimp only [cxK, cxK']); repeat' (first | walk_at "s" | walk_at "sp" | fail)))

local macro_rules | `(tactic| walk_at "hpNo") => `(tactic| with_reducible first
  | assumption
  | (refine' Nm.ofPr ?hq; (case hq => assumption))
  | (refine' Nm.same (same_new (by assumption)) ?hq; (case hq => walk_at "hpNo"))
  | (refine' Nm.same (by assumption) ?hq; (case hq => walk_at "hpNo"))
  | fail)
local macro_rules | `(tactic| walk_at "hpN") => `(tactic| with_reducible first
  | walk_at "hpNo"
  | (refine' Nm.of ?hq; (case hq => walk_at "hpH"))
  | fail)
local macro_rules | `(tactic| walk_at "hpPo") => `(tactic| with_reducible first
  | assumption
  | (refine' Pr.same (same_new (by assumption)) ?hq; (case hq => walk_at "hpPo"))
  | (refine' Pr.same (by assumption) ?hq; (case hq => walk_at "hpPo"))
  | fail)
local macro_rules | `(tactic| walk_at "hpP") => `(tactic| with_reducible first
  | walk_at "hpPo"
  | (refine' Pr.of ?hq; (case hq => walk_at "hpH"))
  | fail)
local macro_rules | `(tactic| walk_at "hpDo") => `(tactic| with_reducible first
  | assumption
  | exact Dq.int _ | exact Dq.bl _ | exact Dq.str _ | exact Dq.non
  | (refine' Dq.same (same_new (by assumption)) ?hq; (case hq => walk_at "hpDo"))
  | (refine' Dq.same (by assumption) ?hq; (case hq => walk_at "hpDo"))
  | fail)
local macro_rules | `(tactic| walk_at "hpD") => `(tactic| with_reducible first
  | walk_at "hpDo"
  | fail)

local macro_rules | `(tactic| walk_at "hpM") => `(tactic| with_reducible first
  | assumption
  | (refine' mk_new ?hn ?hB; (case hn => assumption); (case hB => walk_at "hpB"))
  | (refine' mk_tup ?hn ?hB; (case hn => assumption); (case hB => walk_at "hpB"))
  | (refine' same_at (mk_upd (by assumption)) ?hq; (case hq => walk_at "hpM"))
  | (refine' same_at (show Same (delH _ _) (delH _ _) by assumption) ?hq; (case hq => walk_at "hpM"))
  | (refine' same_at (mk_mono (by assumption)) ?hq; (case hq => walk_at "hpM"))
  | fail)
local macro_rules | `(tactic| walk_at "hpSM") => `(tactic| with_reducible first
  | exact Same.refl _
  | assumption
  | (refine' Same.trans ?hq (mk_upd (by assumption)); (case hq => walk_at "hpSM"))
  | (refine' Same.trans ?hq (show Same (delH _ _) (delH _ _) by assumption); (case hq => walk_at "hpSM"))
  | (refine' Same.trans ?hq (mk_mono (by assumption)); (case hq => walk_at "hpSM"))
  | fail)
local macro_rules | `(tactic| walk_at "hpB") => `(tactic| with_reducible first
  | assumption
  | (refine' bag_upd ?hq (by assumption); (case hq => walk_at "hpB"))
  | (refine' bag_same ?hq (by assumption); (case hq => walk_at "hpB"))
  | fail)
local macro_rules | `(tactic| walk_at "hpHo") => `(tactic| with_reducible first
  | assumption
  | exact upd_same
  | (refine' same_at (same_new (by assumption)) ?hq; (case hq => walk_at "hpHo"))
  | (refine' same_at (by assumption) ?hq; (case hq => walk_at "hpHo"))
  | fail)
local macro_rules | `(tactic| walk_at "hpH") => `(tactic| with_reducible first
  | walk_at "hpHo"
  | (refine' same_at mk_same ?hq; (case hq => walk_at "hpM"))
  | fail)
local macro_rules | `(tactic| walk_at "hpNo") => `(tactic| with_reducible first
  | assumption
  | (refine' Nm.ofPr ?hq; (case hq => assumption))
  | (refine' Nm.same (same_new (by assumption)) ?hq; (case hq => walk_at "hpNo"))
  | (refine' Nm.same (by assumption) ?hq; (case hq => walk_at "hpNo"))
  | fail)
local macro_rules | `(tactic| walk_at "hpNMo") => `(tactic| with_reducible first
  | assumption
  | (refine' Nm.ofPr ?hq; (case hq => assumption))
  | (refine' Nm.same (mk_upd (by assumption)) ?hq; (case hq => walk_at "hpNMo"))
  | (refine' Nm.same (show Same (delH _ _) (delH _ _) by assumption) ?hq; (case hq => walk_at "hpNMo"))
  | (refine' Nm.same (mk_mono (by assumption)) ?hq; (case hq => walk_at "hpNMo"))
  | fail)
local macro_rules | `(tactic| walk_at "hpNM") => `(tactic| with_reducible first
  | walk_at "hpNMo"
  | (refine' Nm.of ?hq; (case hq => walk_at "hpM"))
  | fail)
local macro_rules | `(tactic| walk_at "hpN") => `(tactic| with_reducible first
  | walk_at "hpNo"
  | (refine' Nm.same mk_same ?hq; (case hq => walk_at "hpNMo"))
  | (refine' Nm.of ?hq; (case hq => walk_at "hpH"))
  | fail)
local macro_rules | `(tactic| walk_at "hpPo") => `(tactic| with_reducible first
  | assumption
  | (refine' Pr.same (same_new (by assumption)) ?hq; (case hq => walk_at "hpPo"))
  | (refine' Pr.same (by assumption) ?hq; (case hq => walk_at "hpPo"))
  | fail)
local macro_rules | `(tactic| walk_at "hpPMo") => `(tactic| with_reducible first
  | assumption
  | (refine' Pr.same (mk_upd (by assumption)) ?hq; (case hq => walk_at "hpPMo"))
  | (refine' Pr.same (show Same (delH _ _) (delH _ _) by assumption) ?hq; (case hq => walk_at "hpPMo"))
  | (refine' Pr.same (mk_mono (by assumption)) ?hq; (case hq => walk_at "hpPMo"))
  | fail)
local macro_rules | `(tactic| walk_at "hpPM") => `(tactic| with_reducible first
  | walk_at "hpPMo"
  | (refine' Pr.of ?hq; (case hq => walk_at "hpM"))
  | fail)
local macro_rules | `(tactic| walk_at "hpP") => `(tactic| with_reducible first
  | walk_at "hpPo"
  | (refine' Pr.same mk_same ?hq; (case hq => walk_at "hpPMo"))
  | (refine' Pr.of ?hq; (case hq => walk_at "hpH"))
  | fail)
local macro_rules | `(tactic| walk_at "hpDo") => `(tactic| with_reducible first
  | assumption
  | exact Dq.int _ | exact Dq.bl _ | exact Dq.str _ | exact Dq.non
  | (refine' Dq.same (same_new (by assumption)) ?hq; (case hq => walk_at "hpDo"))
  | (refine' Dq.same (by assumption) ?hq; (case hq => walk_at "hpDo"))
  | fail)
local macro_rules | `(tactic| walk_at "hpDMo") => `(tactic| with_reducible first
  | assumption
  | exact Dq.int _ | exact Dq.bl _ | exact Dq.str _ | exact Dq.non
  | (refine' Dq.same (mk_upd (by assumption)) ?hq; (case hq => walk_at "hpDMo"))
  | (refine' Dq.same (show Same (delH _ _) (delH _ _) by assumption) ?hq; (case hq => walk_at "hpDMo"))
  | (refine' Dq.same (mk_mono (by assumption)) ?hq; (case hq => walk_at "hpDMo"))
  | fail)
local macro_rules | `(tactic| walk_at "hpDM") => `(tactic| with_reducible first
  | walk_at "hpDMo"
  | fail)
local macro_rules | `(tactic| walk_at "hpD") => `(tactic| with_reducible first
  | walk_at "hpDo"
  | (refine' Dq.same mk_same ?hq; (case hq => walk_at "hpDMo"))
  | fail)
local macro_rules | `(tactic| walk_at "call") => `(tactic| first
  | ((with_reducible refine' sp_draw ?_ ?h ?side1 ?side2); (case h => walk_at "hpB"); intro idraw Hd' hi0 hi1 sd' bd')
  | fail)

local macro_rules | `(tactic| walk_at "call") => `(tactic| first
  | ((with_reducible refine' sp_draw ?_ ?h ?side1 ?side2 ?side3); (case h => walk_at "hpB"); intro idraw Hd' hi0 hi1 sd' bd')
  | (with_reducible refine g_fld ?_)
  | fail)
section
variable {P : Program} {w : World} {K : Fg} {mg : Str → Option Value} {base : Heap} {CN CL fI f f1 f2 f3 f4 f5 f6 f7 f8 f9 f10 f11 f12 fL : Addr} {fd fdL : FuncData}
theorem ok_l_prism (F : Fun K "_law_prism" "_law_prism" s_l_prism f fd) (T : Blt mg) (ZN : NetC K mg CN fI)
    (g_loft : mg "loft" = some (.ref fL)) (k_loft : PySem.W.keepIn K (.ref fL) = true) (G_loft : FnOk P w K mg base (L2.CX P w) 7 fL fdL ["lower", "z0", "upper", "z1"] (spLoft CN CL)) (B_loft : Binds K fdL ["lower", "z0", "upper", "z1"] [])
    (D_l_ring : Df P w K mg base 3 "_law_ring" f1 ["_law_bag_here"] spRing) (D_l_draw : Df P w K mg base 1 "_law_draw" f2 ["_law_bag_here", "_law_many_y"] spDraw) (D_l_low : Df P w K mg base 1 "_law_low" f3 ["_law_num", "_law_den"] spLow) (D_l_of : Df P w K mg base 2 "_law_of" f4 ["_law_bag_here", "_law_things"] spOf)
    (D_l_add : Df P w K mg base 2 "_law_add" f5 ["_law_p", "_law_q"] (spLop add)) (D_l_sub : Df P w K mg base 3 "_law_sub" f6 ["_law_p", "_law_q"] (spLop sub)) (D_l_mul : Df P w K mg base 2 "_law_mul" f7 ["_law_p", "_law_q"] (spLop mul)) (D_l_area : Df P w K mg base 4 "_law_area" f8 ["_law_ring_here"] spArea)
    (D_l_handed : Df P w K mg base 3 "_law_handed" f9 ["_law_bag_here", "_law_spots_here"] spHandedS) (D_l_same : Df P w K mg base 5 "_law_same" f10 ["_law_found", "_law_due"] (spLike 4)) (D_l_loft : Df P w K mg base 1 "_law_loft" f11 ["_law_base", "_law_low_here", "_law_cap", "_law_high"] spLLoft) (D_volume : DfK P w K mg base 4 "volume" f12 ["net"] ["net"] (fun us ws => us ++ ws) (spVol CN)) : FnOk P w K mg base CX0 8 f fd ["_law_bag_here"] spPrism := by
  obtain ⟨_, G_l_ring, B_l_ring⟩ := D_l_ring.ok
  obtain ⟨_, G_l_draw, B_l_draw⟩ := D_l_draw.ok
  obtain ⟨_, G_l_low, B_l_low⟩ := D_l_low.ok
  obtain ⟨_, G_l_of, B_l_of⟩ := D_l_of.ok
  obtain ⟨_, G_l_add, B_l_add⟩ := D_l_add.ok
  obtain ⟨_, G_l_sub, B_l_sub⟩ := D_l_sub.ok
  obtain ⟨_, G_l_mul, B_l_mul⟩ := D_l_mul.ok
  obtain ⟨_, G_l_area, B_l_area⟩ := D_l_area.ok
  obtain ⟨_, G_l_handed, B_l_handed⟩ := D_l_handed.ok
  obtain ⟨_, G_l_same, B_l_same⟩ := D_l_same.ok
  obtain ⟨_, G_l_loft, B_l_loft⟩ := D_l_loft.ok
  obtain ⟨_, G_volume, KB_volume⟩ := D_volume.ok
  refine F.ok sc_l_prism (fun vs H Q E h => ?_) (fun cdv A outer s H vs Q E hr h => ?_)
  · obtain ⟨N, b, c, rfl, _⟩ := h
    rfl
  · obtain ⟨N, b, c, rfl, B, hN, k⟩ := h
    refine ⟨_, (pss_cons (ps_set (i := 1) sc_l_prism.nd rfl (.inl rfl) (pe_call G_l_ring (hr.mono (by decide)) (by rfl) D_l_ring.g D_l_ring.kp B_l_ring .nil pass0 (pa_cons (pv 0) pa_nil)))
      (pss_cons (ps_set (i := 2) sc_l_prism.nd rfl (.inl rfl) (pe_tup (pa_cons (pe_op op_sub (pe_call G_l_draw (hr.mono (by decide)) (by rfl) D_l_draw.g D_l_draw.kp B_l_draw .nil pass0 (pa_cons (pv 0) (pa_cons pe_int pa_nil))) pe_int) (pa_cons pe_int pa_nil))))
      (pss_cons (ps_set (i := 2) sc_l_prism.nd rfl (.inl rfl) (pe_call G_l_low (hr.mono (by decide)) (by rfl) D_l_low.g D_l_low.kp B_l_low .nil pass0 (pa_cons (pe_ix (ix_seqK K) (pv 2) pe_int (fun _ _ => rfl)) (pa_cons (pe_ix (ix_seqK K) (pv 2) pe_int (fun _ _ => rfl)) pa_nil))))
      (pss_cons (ps_set (i := 3) sc_l_prism.nd rfl (.inl rfl) (pe_call G_l_add (hr.mono (by decide)) (by rfl) D_l_add.g D_l_add.kp B_l_add .nil pass0 (pa_cons (pv 2) (pa_cons (pe_call G_l_of (hr.mono (by decide)) (by rfl) D_l_of.g D_l_of.kp B_l_of .nil pass0 (pa_cons (pv 0) (pa_cons (pe_lst (pa_cons (pe_tup (pa_cons pe_int (pa_cons pe_int pa_nil))) (pa_cons (pe_tup (pa_cons pe_int (pa_cons pe_int pa_nil))) (pa_cons (pe_tup (pa_cons pe_int (pa_cons pe_int pa_nil))) (pa_cons (pe_tup (pa_cons pe_int (pa_cons pe_int pa_nil))) pa_nil))))) pa_nil))) pa_nil))))
      (pss_cons (ps_set (i := 4) sc_l_prism.nd rfl (.inr rfl) (pe_lst (pa_cons (pe_tup (pa_cons (pe_op op_sub (pe_call G_l_draw (hr.mono (by decide)) (by rfl) D_l_draw.g D_l_draw.kp B_l_draw .nil pass0 (pa_cons (pv 0) (pa_cons pe_int pa_nil))) pe_int) (pa_cons pe_int pa_nil))) (pa_cons (pe_tup (pa_cons (pe_op op_sub (pe_call G_l_draw (hr.mono (by decide)) (by rfl) D_l_draw.g D_l_draw.kp B_l_draw .nil pass0 (pa_cons (pv 0) (pa_cons pe_int pa_nil))) pe_int) (pa_cons pe_int pa_nil))) pa_nil))))
      (pss_cons (ps_setLc (i := 5) (own := [("_law_spot", 6)]) (g := gName 6) (tt := tYes) rfl sc_l_prism.nd rfl rfl (sw_true rfl rfl rfl (by decide +kernel)) (pi_list (pv 1)) (blkOk_by (N := ["_law_bag_here", "_law_ring_here", "_law_low_here", "_law_high", "_law_lean", "_law_cap", "_law_spot", "_law_made", "_law_due"]) (sc := defScope s_l_prism) (by decide +kernel)) (fun _ _ _ _ _ => pg_name (i := 6) sc_l_prism.nd rfl (.inl rfl)) (fun _ _ _ _ _ => pts_nil) (fun _ _ _ _ _ => (pe_tup (pa_cons (pe_call G_l_add (hr.mono (by decide)) (by rfl) D_l_add.g D_l_add.kp B_l_add .nil pass0 (pa_cons (pe_ix (ix_seqK K) (pv 6) pe_int (fun _ _ => rfl)) (pa_cons (pe_ix (ix_seqK K) (pv 4) pe_int (fun _ _ => rfl)) pa_nil))) (pa_cons (pe_call G_l_add (hr.mono (by decide)) (by rfl) D_l_add.g D_l_add.kp B_l_add .nil pass0 (pa_cons (pe_ix (ix_seqK K) (pv 6) pe_int (fun _ _ => rfl)) (pa_cons (pe_ix (ix_seqK K) (pv 4) pe_int (fun _ _ => rfl)) pa_nil))) pa_nil)))))
      (pss_cons (ps_set (i := 7) sc_l_prism.nd rfl (.inl rfl) (pe_call G_loft (hr.mono (by decide)) (by rfl) g_loft k_loft B_loft .nil passL (pa_cons (pe_call G_l_handed (hr.mono (by decide)) (by rfl) D_l_handed.g D_l_handed.kp B_l_handed .nil pass0 (pa_cons (pv 0) (pa_cons (pv 1) pa_nil))) (pa_cons (pv 2) (pa_cons (pe_call G_l_handed (hr.mono (by decide)) (by rfl) D_l_handed.g D_l_handed.kp B_l_handed .nil pass0 (pa_cons (pv 0) (pa_cons (pv 5) pa_nil))) (pa_cons (pv 3) pa_nil))))))
      (pss_cons (ps_set (i := 8) sc_l_prism.nd rfl (.inl rfl) (pe_call G_l_mul (hr.mono (by decide)) (by rfl) D_l_mul.g D_l_mul.kp B_l_mul .nil pass0 (pa_cons (pe_call G_l_area (hr.mono (by decide)) (by rfl) D_l_area.g D_l_area.kp B_l_area .nil pass0 (pa_cons (pv 1) pa_nil)) (pa_cons (pe_call G_l_sub (hr.mono (by decide)) (by rfl) D_l_sub.g D_l_sub.kp B_l_sub .nil pass0 (pa_cons (pv 3) (pa_cons (pv 2) pa_nil))) pa_nil))))
      (pss_one (ps_ret (pe_call G_l_same (hr.mono (by decide)) (by rfl) D_l_same.g D_l_same.kp B_l_same .nil pass0 (pa_cons (pe_lst (pa_cons (pe_callK0 G_volume (hr.mono (by decide)) (by rfl) D_volume.g D_volume.kp KB_volume pass0 (pk_cons (pv 7) pk_nil)) (pa_cons (pe_fldK K (pv 7) rfl) pa_nil))) (pa_cons (pe_lst (pa_cons (pv 8) (pa_cons (pe_callTy (cg_tupOf K) (by rfl) T.n_tuple (by decide +kernel) (pa_cons (pe_ix (ix_seqK K) (pe_call G_l_loft (hr.mono (by decide)) (by rfl) D_l_loft.g D_l_loft.kp B_l_loft .nil pass0 (pa_cons (pv 1) (pa_cons (pv 2) (pa_cons (pv 5) (pa_cons (pv 3) pa_nil))))) pe_int (fun _ _ => rfl)) pa_nil)) pa_nil))) pa_nil))))))))))))), ?_⟩
    walk_at "go"
    refine ⟨N, b, c, rfl, B, by omega, fun l xs ss zs H1 s1 B1 hlb hl dl okl pl l3 l5 => ?_⟩
    have L1 : LsB b H1 l ss := ⟨xs, hlb, hl, dels_bag B1 dl⟩
    clear hl dl B
    walk_at "go"
    any_goals omega
    rename_i i1 H2 i10 i11 s2 B2 t2 n2
    have L2 := L1.bag (s2.trans (mk_upd (o := .tup [.int (i1 - 6), .int 2]) n2))
    have B2 := bag_upd (o := .tup [.int (i1 - 6), .int 2]) B2 n2
    have s2 := s1.trans (s2.trans (mk_upd (o := .tup [.int (i1 - 6), .int 2]) n2))
    generalize upd H2 t2 (.tup [.int (i1 - 6), .int 2]) = H2 at L2 B2 s2
    clear L1 B1 s1
    refine sp_low (fun t3 H3 s3 h3 => ?_) (by decide) (up8900 (by decide))
    have L3 := L2.bag (mk_mono s3)
    have B3 := B2.same s3
    have s3 := s2.trans (mk_mono s3)
    have z3 : Nr (delH H3 b) (.ref t3) 27720 1000000 ((i1 - 6) * 13860) := ⟨low (i1 - 6) 2, ⟨t3, rfl, mk_tup h3 B3⟩, Is.low (by decide) (by decide) (by omega), by omega⟩
    clear L2 B2 s2 h3
    walk_at "go"
    rename_i u1 m1 u2 m2 u3 m3 u4 m4 ul ml
    have a1 := same_new (o := .tup [.int 1, .int 1]) m1
    have a2 := same_new (o := .tup [.int 2, .int 1]) m2
    have a3 := same_new (o := .tup [.int 1, .int 3]) m3
    have a4 := same_new (o := .tup [.int 5, .int 2]) m4
    have a5 := same_new (o := .lst [.ref u1, .ref u2, .ref u3, .ref u4]) ml
    have g1 := a5 _ _ (a4 _ _ (a3 _ _ (a2 _ _ (upd_same (H := H3) (a := u1) (o := .tup [.int 1, .int 1])))))
    have g2 := a5 _ _ (a4 _ _ (a3 _ _ (upd_same (a := u2) (o := .tup [.int 2, .int 1]))))
    have g3 := a5 _ _ (a4 _ _ (upd_same (a := u3) (o := .tup [.int 1, .int 3])))
    have g4 := a5 _ _ (upd_same (a := u4) (o := .tup [.int 5, .int 2]))
    have g5 := upd_same (H := upd (upd (upd (upd H3 u1 (.tup [.int 1, .int 1])) u2 (.tup [.int 2, .int 1])) u3 (.tup [.int 1, .int 3])) u4 (.tup [.int 5, .int 2])) (a := ul) (o := .lst [.ref u1, .ref u2, .ref u3, .ref u4])
    have a0 := (a1.trans a2).trans ((a3.trans a4).trans a5)
    generalize upd (upd (upd (upd (upd H3 u1 (.tup [.int 1, .int 1])) u2 (.tup [.int 2, .int 1])) u3 (.tup [.int 1, .int 3])) u4 (.tup [.int 5, .int 2])) ul (.lst [.ref u1, .ref u2, .ref u3, .ref u4]) = H4 at a0 g1 g2 g3 g4 g5
    clear a1 a2 a3 a4 a5 m1 m2 m3 m4 ml
    have B4 := B3.same a0
    have g1 := mk_tup g1 B4
    have g2 := mk_tup g2 B4
    have g3 := mk_tup g3 B4
    have g4 := mk_tup g4 B4
    have g5 := mk_lst g5 B4 (by show 4 ≠ 5; decide)
    refine sp_ofK (fun i x H5 hx s5 B5 => ?_) g5 B4 (by omega) (by show 0 < 4; decide) (by show 4 < 1000; decide)
    obtain ⟨st, zst, st0⟩ : ∃ n, Nr (delH H5 b) x 27720 69300 n ∧ 0 < n := by
      have hm := List.mem_of_getElem? hx
      simp only [List.mem_cons, List.not_mem_nil, or_false] at hm
      rcases hm with rfl | rfl | rfl | rfl
      · exact ⟨27720, ⟨(1, 1), ⟨u1, rfl, s5 _ _ g1⟩, ⟨⟨by decide, by decide⟩, by decide⟩, by decide⟩, by decide⟩
      · exact ⟨55440, ⟨(2, 1), ⟨u2, rfl, s5 _ _ g2⟩, ⟨⟨by decide, by decide⟩, by decide⟩, by decide⟩, by decide⟩
      · exact ⟨9240, ⟨(1, 3), ⟨u3, rfl, s5 _ _ g3⟩, ⟨⟨by decide, by decide⟩, by decide⟩, by decide⟩, by decide⟩
      · exact ⟨69300, ⟨(5, 2), ⟨u4, rfl, s5 _ _ g4⟩, ⟨⟨by decide, by decide⟩, by decide⟩, by decide⟩, by decide⟩
    have s5' := (mk_mono a0).trans s5
    have L5 := L3.bag s5'
    have z5 := z3.same s5'
    have s5 := s3.trans s5'
    clear g1 g2 g3 g4 g5 a0 B4 L3 z3 s5' s3 B3
    walk_at "go"
    refine sp_ladd (fun t4 H6 s6 z6 => ?_) (z5.same mk_same) (zst.same mk_same) okA
    have L6 := L5.bag (mk_mono s6)
    have B6 := B5.same s6
    have zl := z5.same (mk_mono s6)
    have s6 := s5.trans (mk_mono s6)
    clear L5 B5 z5 zst s5
    have zh := (z6.mono (show 1000000 + 69300 ≤ 1069300 by decide))
    obtain ⟨qh, hp6, ih, bh⟩ := zh
    have zh : Nr (delH H6 b) (.ref t4) 27720 1069300 ((i1 - 6) * 13860 + st) := by
      obtain ⟨_, e, h⟩ := hp6
      cases e
      exact ⟨qh, ⟨t4, rfl, mk_tup h B6⟩, ih, bh⟩
    clear z6 hp6 ih bh
    walk_at "go"
    any_goals omega
    rename_i j1 H7 j10 j11 s7 B7 w1 n1 j2 H8 j20 j21 s8 B8 w2 n2 wl nl
    have e1 : Same (delH H7 b) (delH (upd H7 w1 (.tup [.int (j1 - 4), .int 1])) b) := mk_upd n1
    have e2 : Same (delH H8 b) (delH (upd H8 w2 (.tup [.int (j2 - 4), .int 1])) b) := mk_upd n2
    have e3 : Same (delH (upd H8 w2 (.tup [.int (j2 - 4), .int 1])) b) (delH (upd (upd H8 w2 (.tup [.int (j2 - 4), .int 1])) wl (.lst [.ref w1, .ref w2])) b) := mk_upd nl
    have k1 := e3 _ _ (e2 _ _ (s8 _ _ (mk_tup (upd_same (H := H7) (a := w1) (o := .tup [.int (j1 - 4), .int 1])) (bag_upd B7 n1))))
    have k2 := e3 _ _ (mk_tup (upd_same (H := H8) (a := w2) (o := .tup [.int (j2 - 4), .int 1])) (bag_upd B8 n2))
    have k3 := upd_same (H := upd H8 w2 (.tup [.int (j2 - 4), .int 1])) (a := wl) (o := .lst [.ref w1, .ref w2])
    have s9 := (s7.trans e1).trans (s8.trans (e2.trans e3))
    have B9 := bag_upd (o := .lst [.ref w1, .ref w2]) (bag_upd (o := .tup [.int (j2 - 4), .int 1]) B8 n2) nl
    generalize upd (upd H8 w2 (.tup [.int (j2 - 4), .int 1])) wl (.lst [.ref w1, .ref w2]) = H9 at k1 k2 k3 s9 B9
    have L9 := L6.bag s9
    have zl := zl.same s9
    have zh := zh.same s9
    have s9 := s6.trans s9
    clear e1 e2 e3 s7 s8 B7 B8 n1 n2 nl L6 B6 s6
    obtain ⟨xs9, _, hx9, dx9⟩ := id L9
    have lx9 := dx9.length
    rw [List.length_map] at lx9
    walk_at "go"
    intro D hD
    have lean1 : Nr (delH H9 b) (.ref w1) 27720 110880 ((j1 - 4) * 27720) := ⟨(j1 - 4, 1), ⟨w1, rfl, k1⟩, Is.int _, by omega⟩
    have lean2 : Nr (delH H9 b) (.ref w2) 27720 110880 ((j2 - 4) * 27720) := ⟨(j2 - 4, 1), ⟨w2, rfl, k2⟩, Is.int _, by omega⟩
    clear k1 k2
    refine lcA (walk_list (K := K) (a := l) (xs := xs9)) hD (fun H' i y => ∃ s z, zs[i]? = some z ∧ Dq (delH H' D) y (spD s) ∧ SpOk s ∧ SpR s (shift ((j1 - 4) * 27720) ((j2 - 4) * 27720) z)) (by omega) (fun H5 s5 => SqL.of (s5 _ _ hx9)) (fun H5 H6 i y bt z => ?_) (fun i v H5 H5' hi s5 hD5 y' Kt kt => ?_) (fun H5 us s5 hU hul hus => ?_) gm_name
    · obtain ⟨s, z, e, q, r⟩ := z
      exact ⟨s, z, e, q.same (but_same bt), r⟩
    · obtain ⟨rfl, hx⟩ := y'
      obtain ⟨acc, hA⟩ := hD5
      obtain ⟨d, hd, qd⟩ := dx9.at hx
      rw [List.getElem?_map] at hd
      obtain ⟨s, hs, rfl⟩ := Option.map_eq_some_iff.mp hd
      obtain ⟨z, hz, ⟨⟨ia, _⟩, ⟨ib, _⟩⟩, za, zb⟩ := paired_get pl hs
      obtain ⟨t, u, v, rfl, ht, pu, pv⟩ := spot_dq ((qd.same mk_same).same s5)
      have na : Nr H5' u 27720 1000000 z.1 := ⟨_, pu, ia, za⟩
      have nb : Nr H5' v 27720 1000000 z.2 := ⟨_, pv, ib, zb⟩
      have k5 := s5 _ _ k3
      have la := (lean1.same mk_same).same s5
      have lb := (lean2.same mk_same).same s5
      refine g_wipe rfl ?_
      walk_at "go"
      refine sp_ladd (fun q1 K1 r1 n1 => ?_) na la okL
      have k1 := r1 _ _ k5
      have h1 := r1 _ _ ht
      walk_at "go"
      refine sp_ladd (fun q2 K2 r2 n2 => ?_) (nb.same r1) (lb.same r1) okL
      walk_at "go"
      rename_i tn ntn
      have r3 := same_new (o := .tup [.ref q1, .ref q2]) ntn
      obtain ⟨_, p1, e1, h1, i1', b1⟩ := n1.parts
      obtain ⟨_, p2, e2, h2, i2', b2⟩ := n2.parts
      cases e1
      cases e2
      have s6 := (r1.trans r2).trans r3
      exact kt _ _ s6 ⟨(p1, p2), z, hz, Dq.dels (.tup upd_same (.cons (Pr.dq ⟨q1, rfl, r3 _ _ (r2 _ _ h1)⟩) (.cons (Pr.dq ⟨q2, rfl, r3 _ _ h2⟩) .nil))) rfl (s6 _ _ hA), ⟨i1'.1, i2'.1⟩, ⟨i1', Nat.le_trans b1 (by decide)⟩, ⟨i2', Nat.le_trans b2 (by decide)⟩⟩
    · obtain ⟨ts, lt, dt, okt, pt⟩ := sp_shift _ _ (by rw [hul, lx9, pl.length]) hus
      have hDb : D ≠ b := (B9.free hD).1
      have B5 := B9.same s5
      have M5 : LsB b H5 D ts := ⟨us, hDb, hU, dels_bag B5 (dt.same mk_same)⟩
      have L5 := L9.bag (mk_mono s5)
      have zl := zl.same (mk_mono s5)
      have zh := zh.same (mk_mono s5)
      have s05 := s9.trans (mk_mono s5)
      have ltt : ts.length = ss.length := by omega
      clear lean1 lean2 k3 L9 B9 s9 s5 hU hus dt hD hx9 dx9
      obtain ⟨xs5, _, hx5, dx5⟩ := id L5
      walk_at "go"
      refine ⟨_, b, c, l, xs5, ss, rfl, B5, by omega, mk_at hx5 hlb, dx5, okl, by omega, fun G1 K1 gs1 hds1 r1 C1 _ gn1 hg1 dg1 ph1 nl1 => ?_⟩
      have M1 := M5.bag r1
      have L1 := L5.bag r1
      have zl := zl.same r1
      have zh := zh.same r1
      have s01 := s05.trans r1
      clear M5 L5 s05 r1 B5 hx5 dx5
      obtain ⟨us1, _, hu1, du1⟩ := id M1
      walk_at "go"
      refine ⟨_, b, c, D, us1, ts, rfl, C1, by omega, mk_at hu1 hDb, du1, okt, by omega, fun G2 K2 gs2 hds2 r2 C2 _ gn2 hg2 dg2 ph2 nl2 => ?_⟩
      have M2 := M1.bag r2
      have L2 := L1.bag r2
      have zl := zl.same r2
      have zh := zh.same r2
      have hg1 := mk_same _ _ (r2 _ _ (mk_at hg1 gn1))
      have dg1 := dg1.same r2
      have s02 := s01.trans r2
      clear M1 L1 s01 r2 C1 hu1 du1
      walk_at "go"
      obtain ⟨_, ql, el, hl1, il, bl⟩ := (zl.same mk_same).parts
      obtain ⟨_, qh, eh, hh1, ih, bh⟩ := (zh.same mk_same).parts
      cases el
      cases eh
      obtain ⟨xs2, _, hx2, dx2⟩ := id L2
      obtain ⟨ys2, _, hy2, dy2⟩ := id M2
      have und : under ql qh = true := by
        rw [Is.under (by decide) il ih]
        exact decide_eq_true (by omega)
      have lok : loftOk ss.length ts.length ql qh = true := by
        unfold loftOk
        rw [und, ltt, decide_eq_true rfl, decide_eq_true l3]
        rfl
      refine ⟨G1, G2, _, _, gs1, gs2, hds1, hds2, ss, ts, _, _, ql, qh, rfl, .inl hg1, .inl hg2, dg1.same mk_same, dg2.same mk_same, ph1, ph2, Pr.dq ⟨t3, rfl, hl1⟩, hn_pq il.1, Pr.dq ⟨t4, rfl, hh1⟩, hn_pq ih.1, is_sz (by decide) il bl (by decide +kernel) (by decide +kernel), is_sz (by decide) ih bh (by decide +kernel) (by decide +kernel), by omega, by omega, fun _ x K3 r3 hn => ?_, fun z => by rw [lok] at z; cases z⟩
      have hx3 := r3 _ _ hx2
      have hy3 := r3 _ _ hy2
      have dx3 := (dx2.same mk_same).same r3
      have dy3 := (dy2.same mk_same).same r3
      have hl3 := r3 _ _ hl1
      have hh3 := r3 _ _ hh1
      have C3 := C2.same r3
      have s03 := s02.trans (mk_mono r3)
      clear hg1 hg2 dg1 dg2 ph1 ph2 nl1 nl2 L2 M2 hx2 hy2 dx2 dy2 zl zh hl1 hh1 C2 s02 r3
      have pls : Paired SpR ss zs := paired_mono (fun _ _ h => h.1) pl
      have lz : zs.length = ss.length := pl.length.symm
      walk_at "go"
      refine ⟨l, xs2, ss, zs, rfl, hx3, dx3, pls, by omega, by omega, fun va K4 r4 za => ?_⟩
      walk_at "go"
      refine sp_lsub (fun vb K5 r5 zb => ?_) ⟨qh, ⟨t4, rfl, r4 _ _ hh3⟩, ih, bh⟩ ⟨ql, ⟨t3, rfl, r4 _ _ hl3⟩, il, bl⟩ okS
      walk_at "go"
      refine sp_lmul (fun vc K6 r6 zc => ?_) (za.same r5) zb okM1 okM2
      have r36 := (r4.trans r5).trans r6
      have hn6 := hn.same r36
      have hx6 := r36 _ _ hx3
      have hy6 := r36 _ _ hy3
      have dx6 := dx3.same r36
      have dy6 := dy3.same r36
      have hl6 := r36 _ _ hl3
      have hh6 := r36 _ _ hh3
      have C6 := C3.same r36
      have s06 := s03.trans (mk_mono r36)
      clear hn hx3 hy3 dx3 dy3 hl3 hh3 C3 s03 r36 r4 r5 r6 za zb
      walk_at "go"
      repeat (first | (with_reducible refine g_callK ?_) | (with_reducible refine g_kapp ?_) | walk_at "s")
      have h2m : ((loftC ss ql ts qh).length) = 2 * ss.length := by
        unfold loftC
        rw [List.length_append, List.length_map, List.length_map]
        omega
      have pcn : Paired CnR (loftC ss ql ts qh) ((zs.map fun z => (z.1, z.2, (i1 - 6) * 13860)) ++ ((zs.map (shift ((j1 - 4) * 27720) ((j2 - 4) * 27720))).map fun z => (z.1, z.2, (i1 - 6) * 13860 + st))) := paired_app (cn_pair il (Nat.le_trans bl (by decide)) pls) (cn_pair ih (Nat.le_trans bh (by decide)) pt)
      have fok : ∀ f ∈ loftF ss.length, FcOk (loftC ss ql ts qh).length f := by
        rw [h2m]
        exact loftF_ok l3
      have fln := loftF_len l3
      refine ⟨_, loftC ss ql ts qh, loftF ss.length, _, rfl, hn6, pcn, fok, by omega, fun vv K7 r7 zv => ?_⟩
      rw [← lz, prism_all (by omega) (by omega)] at zv
      walk_at "go"
      obtain ⟨_, dx, ca, fa, ex, hx, qc, qf⟩ := hn6.same r7
      cases ex
      refine ⟨x, CN, dx, _, .ref fa, rfl, hx, ZN.cl, ZN.nF, rfl, ?_⟩
      walk_at "go"
      rename_i L nL
      have a8 := same_new (o := .lst [vv, .ref fa]) nL
      have hL := upd_same (H := K7) (a := L) (o := .lst [vv, .ref fa])
      have a8' := r7.trans a8
      generalize upd K7 L (.lst [vv, .ref fa]) = K8 at a8 hL a8'
      refine ⟨l, D, t3, t4, xs2, ys2, ss, ts, ql, qh, rfl, a8' _ _ hx6, a8' _ _ hy6, dx6.same a8', dy6.same a8', a8' _ _ hl6, a8' _ _ hh6, l3, by omega, by omega, fun rr K9 r9 dr => ?_⟩
      obtain ⟨ys, hr0, dys⟩ := dq_lst dr
      cases dys with
      | cons d1 rr1 =>
      cases rr1 with
      | cons d2 rr2 =>
      cases rr2
      cases d2 with
      | lst hl2 dl2 =>
      walk_at "go"
      refine g_tupA (.inl hl2) fun tt K10 r10 _ htt => ?_
      walk_at "go"
      rename_i M nM
      have rM := same_new (o := .lst [.ref vc, .ref tt]) nM
      obtain ⟨q, iq, dq⟩ := zv.dq
      obtain ⟨q', iq', dq'⟩ := zc.dq
      have iq3 := iq'.scale 3
      have hD : (27720 * 27720 * 2 * 27720 * 3 : Int) = D3 * 6 := by decide
      rw [hD] at iq3
      have iq := iq.eq (show 3 * area2 zs zs.length * ((i1 - 6) * 13860 + st - (i1 - 6) * 13860) = area2 zs ss.length * ((i1 - 6) * 13860 + st - (i1 - 6) * 13860) * 3 by
        rw [lz]
        generalize area2 zs ss.length = a
        generalize ((i1 - 6) * 13860 + st - (i1 - 6) * 13860) = h
        rw [Int.mul_assoc, Int.mul_comm])
      obtain rfl : q = q' := Is.inj (by decide) iq iq3
      have r80 := r9.trans (r10.trans rM)
      refine sp_like (d := .lst [.pq q, .tup ((loftF ss.length).map fcD)]) (.lst (r80 _ _ hL) (.cons ((dq.same a8).same r80) (.cons ((qf.same a8).same r80) .nil))) (.lst upd_same (.cons ((dq'.same a8').same r80) (.cons (.tup (rM _ _ htt) ((dl2.same r10).same rM)) .nil))) (ok_two ?_ (ok_fs (by omega))) fun K11 r11 => ?_
      · refine ⟨by show 2 ≤ 1000; decide, fun d hd => ?_⟩
        simp only [List.mem_cons, List.not_mem_nil, or_false] at hd
        rcases hd with rfl | rfl <;> exact ok_int
      · walk_at "go"
        exact k _ (s06.trans (mk_mono ((a8'.trans r80).trans r11))) ((C6.same ((a8'.trans r80).trans r11)).le (by omega))
end
end Ko


namespace Ko
open PySem L2 PySem.Spec PyProof.Rows Xm
/-- lists and tables may change -/
def Mu (H H' : Hp) : Prop := ∀ a o, H a = some o → (∀ xs, o ≠ .lst xs) → (∀ ps, o ≠ .tbl ps) → H' a = some o
/-- lists may change -/
def Mt (H H' : Hp) : Prop := ∀ a o, H a = some o → (∀ xs, o ≠ .lst xs) → H' a = some o
section
variable {H H' H'' : Hp} {N M : Nat} {b c l : Addr} {xs : List V} {o : HO}
theorem Mt.mu (m : Mt H H') : Mu H H' := fun a o e n _ => m a o e n
theorem Mu.refl : Mu H H := fun _ _ e _ _ => e
theorem Mt.refl : Mt H H := fun _ _ e _ => e
theorem Mu.trans (m : Mu H H') (m' : Mu H' H'') : Mu H H'' := fun a o e n1 n2 => m' a o (m a o e n1 n2) n1 n2
theorem Mt.trans (m : Mt H H') (m' : Mt H' H'') : Mt H H'' := fun a o e n1 => m' a o (m a o e n1) n1
theorem Mt.of (s : Same H H') : Mt H H' := fun a o e _ => s a o e
theorem Mt.bag (B : Bag N H b c) (s : Same (delH H b) (delH H' b)) : Mt H H' := fun a o e n1 => mk_same _ _ (s _ _ (mk_at e (fun z => by
  obtain ⟨_, _, _, _, _, _, hb, _⟩ := B
  rw [z, hb] at e
  cases e
  exact n1 _ rfl)))
theorem Mt.set (h : H l = some (.lst xs)) : Mt H (upd H l o) := fun a o' e n1 => by
  rw [upd_ne (fun z => by
    rw [z, h] at e
    cases e
    exact n1 _ rfl)]
  exact e
theorem Mu.ext (e : LamX.ExtN H H') : Mu H H' := fun a o h _ n2 => e a o h n2
mutual
theorem Dq.mu (m : Mu H H') : ∀ {v : V} {d : Dt}, Dq H v d → d.noL = true → Dq H' v d
  | _, _, .non, _ => .non
  | _, _, .bl b, _ => .bl b
  | _, _, .int i, _ => .int i
  | _, _, .str x, _ => .str x
  | _, _, .lst h r, n => by
    rw [Dt.noL] at n
    cases n
  | _, _, .tup h r, n => by
    rw [Dt.noL] at n
    exact .tup (m _ _ h (fun _ z => by cases z) (fun _ z => by cases z)) (DqAll.mu m r n)
theorem DqAll.mu (m : Mu H H') : ∀ {vs : List V} {ds : List Dt}, DqAll H vs ds → Dt.noLs ds = true → DqAll H' vs ds
  | _, _, .nil, _ => .nil
  | _, _, .cons h r, n => by
    rw [Dt.noLs] at n
    have n := Bool.and_eq_true_iff.mp n
    exact .cons (Dq.mu m h n.1) (DqAll.mu m r n.2)
end
theorem NetO.mu {CN : Addr} {v : V} {cs fs : List Dt} (m : Mu H H') (h : NetO CN H v cs fs) (n1 : Dt.noLs cs = true) (n2 : Dt.noLs fs = true) : NetO CN H' v cs fs := by
  obtain ⟨x, dx, ca, fa, e, hx, h1, h2⟩ := h
  exact ⟨x, dx, ca, fa, e, m _ _ hx (fun _ z => by cases z) (fun _ z => by cases z), h1.mu m (by rw [Dt.noL]; exact n1), h2.mu m (by rw [Dt.noL]; exact n2)⟩
theorem tabs_mt {T : List (Addr × Str)} (t : LamX.Tabs T H) (m : Mt H H') : LamX.Tabs T H' := fun p hp => by
  obtain ⟨ps, h1, h2, h3⟩ := t p hp
  refine ⟨ps, m _ _ h1 (fun _ z => by cases z), h2, fun pos cv hc => ?_⟩
  obtain ⟨c, e1, e2⟩ := h3 pos cv hc
  exact ⟨c, e1, m _ _ e2 (fun _ z => by cases z)⟩
theorem bag_ext (B : Bag N H b c) (e : LamX.ExtN H H') : Bag N H' b c := by
  obtain ⟨n, ns, at_, gr, sd, ct, hb, hc, r⟩ := B
  exact ⟨n, ns, at_, gr, sd, ct, e _ _ hb (fun _ z => by cases z), e _ _ hc (fun _ z => by cases z), r⟩
end
theorem Fun.okC {P : Program} {w : World} {K : PySem.W.Frag} {mg : Str → Option Value} {base : Heap} {x qual : Str} {st : Stmt} {f : Addr} {fd : FuncData} {N ps : List Str} {k : Nat} {sp : Sp} (F : Fun K x qual st f fd) (S : FnScope N ps (defScope st)) (len : ∀ vs H Q E, sp vs H Q E → vs.length = ps.length)
    (hbody : ∀ (cdv : Value), fd.code = cdv → ∀ (A : Around) (outer : List Env) (s : Shared) (H : Hp) (vs : List V) (Q : VK) (E : XK), Room k (A.deeper (envOfC qual (defScope st) s.heap.objs.size f cdv)) → sp vs H Q E →
      ∃ t, PSs (cxOf CX0 P w K mg base N qual (defScope st) f cdv A outer s H E).nox (defBody st) t ∧ t { nx := fun _ H' => Q .non H', rt := Q } (start N vs) H) : FnOk P w K mg base CX0 (k + 1) f fd ps sp := by
  obtain ⟨oc, od, kV, doc, pm, an, cdv, ct, osl, rfl, lk, hcd⟩ := F.ex
  refine fn_of lk hcd S len fun A outer s H vs Q E hr hsp => ?_
  obtain ⟨t, h, q⟩ := hbody cdv rfl A outer s H vs Q E hr hsp
  exact ⟨t, h.nox, q⟩
def lamA : Expr := match (defBody s_l_once).getD 3 (.Pass ⟨0, 0, 0, 0⟩) with
  | .If _ [.Assign _ v _] _ _ => v
  | _ => .Constant .none 0 ⟨0, 0, 0, 0⟩
def lamB : Expr := match (defBody s_l_once).getD 3 (.Pass ⟨0, 0, 0, 0⟩) with
  | .If _ _ [.Assign _ v _] _ => v
  | _ => .Constant .none 0 ⟨0, 0, 0, 0⟩
abbrev lamQ : Str := (("_law_once" : Str) ++ (".<locals>." : Str)) ++ ("<lambda>" : Str)
section
variable {P : Program} {w : World} {K : Fg} {mg : Str → Option Value} {base : Heap} {R CL CN f fL fT cc pp : Addr} {fd fdL fdT : FuncData}
theorem lam_a (T : Blt mg) (Z : Bl P w K mg base R CL) (g_loft : mg "loft" = some (.ref fL)) (k_loft : PySem.W.keepIn K (.ref fL) = true) (G_loft : FnOk P w K mg base (L2.CX P w) 7 fL fdL ["lower", "z0", "upper", "z1"] (spLoft CN CL)) (B_loft : Binds K fdL ["lower", "z0", "upper", "z1"] [])
    (F_try : Fun K "_law_try" "_law_try" s_l_try fT fdT) (b_try : Binds K fdT ["_law_ask"] []) (g_try : mg "_law_try" = some (.ref fT)) (TB : LamX.TabB base mg cc pp) {TT : List (Addr × Str)} (hTT : TT = [(pp, lamQ)])
    {A : Around} {outer : List Env} {s : Shared} {H : Hp} {E : XK} (hr : Room 9 (A.deeper (envOfC "_law_once" (defScope s_l_once) s.heap.objs.size f (.ref cc)))) :
    PE (cxOf CX0 P w K mg base ["_law_bag_here", "_law_base", "_law_low_here", "_law_cap", "_law_high", "_law_given_a", "_law_given_b", "_law_low_given", "_law_high_given", "_law_found"] "_law_once" (defScope s_l_once) f (.ref cc) A outer s H E).nox lamA (LamX.tLam TT (TTry CL) (fun E => tCall (spLoft CN CL) [] E (tCons (tVar 5) (tCons (tVar 7) (tCons (tVar 6) (tCons (tVar 8) tNil)))))) := by
  have kp_try := F_try.kp
  obtain ⟨oct, odt, kVt, doct, pmt, ant, cdt, ctt, oslt, rfl, lk_try, hc_try⟩ := F_try.ex
  have hu : ∀ p ∈ TT, p.1 = pp → p.2 = lamQ := fun p hp _ => by
    rw [hTT] at hp
    rw [List.mem_singleton.mp hp]
  have hmT : (pp, lamQ) ∈ TT := by rw [hTT]; exact List.mem_cons_self
  show PE _ (.Call (.Name "_law_try" _) [.Lambda _ (.Call (.Name "loft" _) [.Name "_law_given_a" _, .Name "_law_low_given" _, .Name "_law_given_b" _, .Name "_law_high_given" _] [] _) _ _] [] _) _
  refine LamX.pe_lamcall (T := TT) (TT := TTry CL) (x := "_law_try") (a := "_law_ask") (g := fT) (c := cc) (P := pp) (k := 7) (by rfl) g_try kp_try lk_try hc_try b_try sc_l_try ?h1 ?h2 ?hG TB ?hcode ?hmT ?hu (hr.mono (by decide)) ?L ?hdef ?hbind ?hbody
  case h1 => rfl
  case h2 => exact .inl rfl
  case hG => exact try_gives T Z
  case hcode => rfl
  case hmT => exact hmT
  case hu => exact hu
  case L => exact LamX.lamS_by (show LamX.lamSB (defScope s_l_once) _ = true by decide +kernel)
  case hdef => rfl
  case hbind => exact fun _ _ _ _ _ => rfl
  case hbody => exact fun A outer s H E f c' hr2 => pe_call G_loft hr2 (by rfl) g_loft k_loft B_loft .nil (passes_call (takes_of rfl rfl rfl rfl) (fun _ _ _ _ h => h)) (pa_cons (pv 5) (pa_cons (pv 7) (pa_cons (pv 6) (pa_cons (pv 8) pa_nil))))
theorem lam_b (T : Blt mg) (Z : Bl P w K mg base R CL) (g_loft : mg "loft" = some (.ref fL)) (k_loft : PySem.W.keepIn K (.ref fL) = true) (G_loft : FnOk P w K mg base (L2.CX P w) 7 fL fdL ["lower", "z0", "upper", "z1"] (spLoft CN CL)) (KB_loft : KBinds K fdL ["lower", "z0", "upper", "z1"] ["z1", "upper", "z0", "lower"] (fun us ws => gRev us ws) (fun us ws => gRev us ws))
    (F_try : Fun K "_law_try" "_law_try" s_l_try fT fdT) (b_try : Binds K fdT ["_law_ask"] []) (g_try : mg "_law_try" = some (.ref fT)) (TB : LamX.TabB base mg cc pp) {TT : List (Addr × Str)} (hTT : TT = [(pp, lamQ)])
    {A : Around} {outer : List Env} {s : Shared} {H : Hp} {E : XK} (hr : Room 9 (A.deeper (envOfC "_law_once" (defScope s_l_once) s.heap.objs.size f (.ref cc)))) :
    PE (cxOf CX0 P w K mg base ["_law_bag_here", "_law_base", "_law_low_here", "_law_cap", "_law_high", "_law_given_a", "_law_given_b", "_law_low_given", "_law_high_given", "_law_found"] "_law_once" (defScope s_l_once) f (.ref cc) A outer s H E).nox lamB (LamX.tLam TT (TTry CL) (fun E => tCallK (spLoft CN CL) (fun us ws => gRev us ws) E tNil (tCons (tVar 8) (tCons (tCB (rgTupOf K) (tCons (tVar 6) tNil)) (tCons (tVar 7) (tCons (tCB (rgTupOf K) (tCons (tVar 5) tNil)) tNil)))))) := by
  have kp_try := F_try.kp
  obtain ⟨oct, odt, kVt, doct, pmt, ant, cdt, ctt, oslt, rfl, lk_try, hc_try⟩ := F_try.ex
  have hu : ∀ p ∈ TT, p.1 = pp → p.2 = lamQ := fun p hp _ => by
    rw [hTT] at hp
    rw [List.mem_singleton.mp hp]
  have hmT : (pp, lamQ) ∈ TT := by rw [hTT]; exact List.mem_cons_self
  show PE _ (.Call (.Name "_law_try" _) [.Lambda _ (.Call (.Name "loft" _) [] _ _) _ _] [] _) _
  refine LamX.pe_lamcall (T := TT) (TT := TTry CL) (x := "_law_try") (a := "_law_ask") (g := fT) (c := cc) (P := pp) (k := 7) (by rfl) g_try kp_try lk_try hc_try b_try sc_l_try ?h1 ?h2 ?hG TB ?hcode ?hmT ?hu (hr.mono (by decide)) ?L ?hdef ?hbind ?hbody
  case h1 => rfl
  case h2 => exact .inl rfl
  case hG => exact try_gives T Z
  case hcode => rfl
  case hmT => exact hmT
  case hu => exact hu
  case L => exact LamX.lamS_by (show LamX.lamSB (defScope s_l_once) _ = true by decide +kernel)
  case hdef => rfl
  case hbind => exact fun _ _ _ _ _ => rfl
  case hbody => exact fun A outer s H E f c' hr2 => pe_callK0 G_loft hr2 (by rfl) g_loft k_loft KB_loft (passes_call (takes_of rfl rfl rfl rfl) (fun _ _ _ _ h => h)) (pk_cons (pv 8) (pk_cons (pe_callTy (cg_tupOf K) (by rfl) T.n_tuple (by decide +kernel) (pa_cons (pv 6) pa_nil)) (pk_cons (pv 7) (pk_cons (pe_callTy (cg_tupOf K) (by rfl) T.n_tuple (by decide +kernel) (pa_cons (pv 5) pa_nil)) pk_nil))))
end
end Ko


namespace Ko
open PySem L2 PySem.Spec PyProof.Rows Xm
def spOnce (T : List (Addr × Str)) : Sp := fun vs H Q _ => ∃ (N : Nat) (b c : Addr), vs = [.ref b] ∧ Bag N H b c ∧ LamX.Tabs T H ∧ 300 ≤ N ∧ ∀ H', LamX.Tabs T H' → Bag (N - 300) H' b c → Q (.bl true) H'
/-- a list as it is given -/
def GvL (b : Addr) (H : Hp) (g : Addr) (ss : List Sp2) : Prop := ∃ ys hds, g ≠ b ∧ H g = some (.lst ys) ∧ DqAll (delH H b) ys hds ∧ Paired HndS hds ss ∧ Dt.noLs hds = true
def NvD (b : Addr) (H : Hp) (x : V) (p : Pq) : Prop := ∃ d, Dq (delH H b) x d ∧ HnN d p
/-- what stands all the way -/
structure Sx (T : List (Addr × Str)) (b c l1 l2 g1 g2 a1 a2 : Addr) (x1 x2 : V) (ss ts : List Sp2) (p q : Pq) (N : Nat) (H : Hp) : Prop where
  B : Bag N H b c
  t : LamX.Tabs T H
  L1 : SpL b H l1 ss
  L2 : SpL b H l2 ts
  G1 : GvL b H g1 ss
  G2 : GvL b H g2 ts
  p1 : delH H b a1 = some (.tup [.int p.1, .int p.2])
  p2 : delH H b a2 = some (.tup [.int q.1, .int q.2])
  v1 : NvD b H x1 p
  v2 : NvD b H x2 q
section
variable {T : List (Addr × Str)} {b c l1 l2 g1 g2 a1 a2 g l : Addr} {x1 x2 x : V} {ss ts : List Sp2} {p q : Pq} {N M : Nat} {H H' : Hp}
theorem GvL.bag (h : GvL b H g ss) (s : Same (delH H b) (delH H' b)) : GvL b H' g ss := by
  obtain ⟨ys, hds, n, e, d, r⟩ := h
  exact ⟨ys, hds, n, mk_same _ _ (s _ _ (mk_at e n)), d.same s, r⟩
theorem NvD.bag (h : NvD b H x p) (s : Same (delH H b) (delH H' b)) : NvD b H' x p := by
  obtain ⟨d, e, r⟩ := h
  exact ⟨d, e.same s, r⟩
theorem ext_del (e : LamX.ExtN H H') : LamX.ExtN (delH H b) (delH H' b) := fun a o h n => by
  have nb := mk_ne h
  rw [delH_ne nb] at h ⊢
  exact e a o h n
theorem GvL.ext (h : GvL b H g ss) (e : LamX.ExtN H H') : GvL b H' g ss := by
  obtain ⟨ys, hds, n, h, d, r1, r2⟩ := h
  exact ⟨ys, hds, n, e _ _ h (fun _ z => by cases z), d.mu (Mu.ext (ext_del e)) r2, r1, r2⟩
theorem NvD.ext (h : NvD b H x p) (e : LamX.ExtN H H') : NvD b H' x p := by
  obtain ⟨d, h, r⟩ := h
  exact ⟨d, h.mu (Mu.ext (ext_del e)) r.2.2, r⟩
theorem SpL.ext (h : SpL b H l ss) (e : LamX.ExtN H H') : SpL b H' l ss := by
  obtain ⟨xs, n, h, d, r⟩ := h
  exact ⟨xs, n, e _ _ h (fun _ z => by cases z), d.mu (Mu.ext (ext_del e)) (sps_noL _), r⟩
theorem Sx.bag (S : Sx T b c l1 l2 g1 g2 a1 a2 x1 x2 ss ts p q N H) (s : Same (delH H b) (delH H' b)) (B' : Bag M H' b c) : Sx T b c l1 l2 g1 g2 a1 a2 x1 x2 ss ts p q M H' :=
  ⟨B', tabs_mt S.t (Mt.bag S.B s), S.L1.bag s, S.L2.bag s, S.G1.bag s, S.G2.bag s, s _ _ S.p1, s _ _ S.p2, S.v1.bag s, S.v2.bag s⟩
theorem Sx.same (S : Sx T b c l1 l2 g1 g2 a1 a2 x1 x2 ss ts p q N H) (s : Same H H') : Sx T b c l1 l2 g1 g2 a1 a2 x1 x2 ss ts p q N H' := S.bag (mk_mono s) (S.B.same s)
theorem Sx.le (S : Sx T b c l1 l2 g1 g2 a1 a2 x1 x2 ss ts p q N H) (h : M ≤ N) : Sx T b c l1 l2 g1 g2 a1 a2 x1 x2 ss ts p q M H := ⟨S.B.le h, S.t, S.L1, S.L2, S.G1, S.G2, S.p1, S.p2, S.v1, S.v2⟩
theorem Sx.ext (S : Sx T b c l1 l2 g1 g2 a1 a2 x1 x2 ss ts p q N H) (e : LamX.ExtN H H') (t : LamX.Tabs T H') : Sx T b c l1 l2 g1 g2 a1 a2 x1 x2 ss ts p q N H' :=
  ⟨bag_ext S.B e, t, S.L1.ext e, S.L2.ext e, S.G1.ext e, S.G2.ext e, ext_del e _ _ S.p1 (fun _ z => by cases z), ext_del e _ _ S.p2 (fun _ z => by cases z), S.v1.ext e, S.v2.ext e⟩
theorem small_is {q : Pq} (h : Small q) : ∃ n, Is 27720 n q ∧ n.natAbs ≤ BB := by
  obtain ⟨l, h1, h2⟩ := h
  have l1 := l.1
  obtain ⟨n, d⟩ := q
  dsimp only at h1 h2 l1
  have g : ∀ e : Int, 0 < e → d * e = 27720 → e ≤ 27720 → ∃ n', Is 27720 n' (n, d) ∧ n'.natAbs ≤ BB := fun e e0 he e1 => by
    refine ⟨n * e, ⟨l, ?_⟩, ?_⟩
    · show n * 27720 = n * e * d
      rw [← he, Int.mul_assoc, Int.mul_comm e]
    · rw [Int.natAbs_mul]
      exact Nat.le_trans (Nat.mul_le_mul h1 (show e.natAbs ≤ 27720 by omega)) (by decide)
  obtain rfl | rfl | rfl | rfl | rfl | rfl | rfl | rfl | rfl | rfl | rfl | rfl : d = 1 ∨ d = 2 ∨ d = 3 ∨ d = 4 ∨ d = 5 ∨ d = 6 ∨ d = 7 ∨ d = 8 ∨ d = 9 ∨ d = 10 ∨ d = 11 ∨ d = 12 := by omega
  · exact g 27720 (by decide) (by decide) (by decide)
  · exact g 13860 (by decide) (by decide) (by decide)
  · exact g 9240 (by decide) (by decide) (by decide)
  · exact g 6930 (by decide) (by decide) (by decide)
  · exact g 5544 (by decide) (by decide) (by decide)
  · exact g 4620 (by decide) (by decide) (by decide)
  · exact g 3960 (by decide) (by decide) (by decide)
  · exact g 3465 (by decide) (by decide) (by decide)
  · exact g 3080 (by decide) (by decide) (by decide)
  · exact g 2772 (by decide) (by decide) (by decide)
  · exact g 2520 (by decide) (by decide) (by decide)
  · exact g 2310 (by decide) (by decide) (by decide)
theorem small_zs : ∀ {ss : List Sp2}, (∀ s ∈ ss, SmS s) → ∃ zs : List Z2, Paired SpR ss zs
  | [], _ => ⟨[], .nil⟩
  | s :: ss, h => by
    obtain ⟨zs, p⟩ := small_zs (ss := ss) fun x hx => h x (List.mem_cons_of_mem _ hx)
    obtain ⟨a, ha⟩ := small_is (h s List.mem_cons_self).1
    obtain ⟨b, hb⟩ := small_is (h s List.mem_cons_self).2
    exact ⟨(a, b) :: zs, .cons ⟨ha, hb⟩ p⟩
theorem NvD.of (h : Nm (delH H b) x p) (l : Lo p) : NvD b H x p := nm_dq h l
/-- what the try gave -/
def Fnd (CN : Addr) (ok : Bool) (ss : List Sp2) (p : Pq) (ts : List Sp2) (q : Pq) (fo : Addr) (H : Hp) : Prop :=
  (ok = true → ∃ v, H fo = some (.tup [.str "", v]) ∧ NetO CN H v ((loftC ss p ts q).map cnD) ((loftF ss.length).map fcD)) ∧ (ok = false → H fo = some (.tup [.str "BadLoft"]))
end
section
variable {b : Addr} {x1 x2 : V} {ss ts : List Sp2} {p q : Pq} {H : Hp} {Q : VK} {E : XK} {CN CL u1 u2 : Addr} {ys1 ys2 : List V} {hds1 hds2 : List Dt}
theorem sx_loft (h1 : SeqV H u1 ys1) (h2 : SeqV H u2 ys2) (d1 : DqAll H ys1 hds1) (d2 : DqAll H ys2 hds2) (ph1 : Paired HndS hds1 ss) (ph2 : Paired HndS hds2 ts) (v1 : NvD b H x1 p) (v2 : NvD b H x2 q) (z1 : Small p) (z2 : Small q) (l1 : ss.length ≤ 8) (l2 : ts.length ≤ 8)
    (ko : loftOk ss.length ts.length p q = true → ∀ x H', Same H H' → NetO CN H' (.ref x) ((loftC ss p ts q).map cnD) ((loftF ss.length).map fcD) → Q (.ref x) H')
    (ke : loftOk ss.length ts.length p q = false → ∀ d H', Same H H' → (∀ dx, d = some dx → ∃ fs, H' dx = some (exd dx fs)) → E (.ref CL) d H') : spLoft CN CL [.ref u1, x1, .ref u2, x2] H Q E := by
  obtain ⟨e1, q1, r1⟩ := v1
  obtain ⟨e2, q2, r2⟩ := v2
  exact ⟨u1, u2, x1, x2, ys1, ys2, hds1, hds2, ss, ts, e1, e2, p, q, rfl, h1, h2, d1, d2, ph1, ph2, q1.same mk_same, r1, q2.same mk_same, r2, z1.sz, z2.sz, by omega, by omega, ko, ke⟩
end

local macro_rules | `(tactic| walk_at "hpS") => `(tactic| with_reducible first
  | exact Same.refl _
  | assumption
  | (refine' Same.trans ?hq (same_new (by assumption)); (case hq => walk_at "hpS"))
  | (refine' Same.trans ?hq (by assumption); (case hq => walk_at "hpS"))
  | fail)
local macro_rules | `(tactic| walk_at "hpH") => `(tactic| with_reducible first
  | assumption
  | exact upd_same
  | (refine' same_at (same_new (by assumption)) ?hq; (case hq => walk_at "hpH"))
  | (refine' same_at (by assumption) ?hq; (case hq => walk_at "hpH"))
  | fail)
local macro_rules | `(tactic| walk_at "hpTo") => `(tactic| with_reducible first
  | assumption
  | (refine' sq_t (same_new (by assumption)) ?hq; (case hq => walk_at "hpTo"))
  | (refine' sq_t (by assumption) ?hq; (case hq => walk_at "hpTo"))
  | fail)
local macro_rules | `(tactic| walk_at "hpT") => `(tactic| with_reducible first
  | (refine' SqT.of ?hq; (case hq => walk_at "hpH"))
  | walk_at "hpTo"
  | fail)
local macro_rules | `(tactic| walk_at "hpLo") => `(tactic| with_reducible first
  | assumption
  | (refine' sq_l (same_new (by assumption)) ?hq; (case hq => walk_at "hpLo"))
  | (refine' sq_l (by assumption) ?hq; (case hq => walk_at "hpLo"))
  | fail)
local macro_rules | `(tactic| walk_at "hpL") => `(tactic| with_reducible first
  | (refine' SqL.of ?hq; (case hq => walk_at "hpH"))
  | walk_at "hpLo"
  | fail)
local macro_rules | `(tactic| walk_at "kit") => `(tactic| with_reducible first
  | exact kit_int_bool | exact kit_int_int | exact kit_int_tuple | exact kit_int_list | exact kit_int_str
  | exact kit_tuple_tuple | exact kit_tuple_int | exact kit_tuple_bool | exact kit_tuple_list | exact kit_tuple_str
  | exact kit_bool_bool | exact kit_bool_int | exact kit_bool_tuple | exact kit_bool_list | exact kit_bool_str
  | exact kit_str_str | exact kit_str_int | exact kit_str_bool | exact kit_str_tuple | exact kit_str_list
  | exact kit_NoneType_int | exact kit_NoneType_bool | exact kit_NoneType_tuple | exact kit_NoneType_list | exact kit_NoneType_str
  | exact kit_list_list | exact kit_list_tuple | exact kit_list_int | exact kit_list_bool | exact kit_list_str
  | fail)
local macro_rules | `(tactic| walk_at "call") => `(tactic| fail)
local macro_rules | `(tactic| walk_at "s0") => `(tactic| with_reducible first
  | refine g_seq ?_ | refine g_asg ?_ | refine g_name ?_ | refine g_ifS ?_ | refine g_ret ?_ | refine g_retN ?_ | refine g_next ?_
  | refine g_par ?_ | refine g_parE ?_ | refine g_drop ?_
  | refine g_c ?_ | refine g_op ?_ | refine g_un ?_ | refine g_cb ?_ | refine g_call ?_ | refine g_nil ?_ | refine g_cons ?_ | refine g_tup ?_ | refine g_lst ?_
  | refine g_test ?_ | refine g_B ?_ | refine g_blF ?_ | refine g_and ?_ | refine g_or ?_ | refine g_not ?_ | refine g_andV ?_ | refine g_orV ?_ | refine g_notV ?_ | refine g_if ?_
  | refine iteT ?_ | refine iteF ?_
  | refine g_chain ?_ | refine g_sl ?_ | refine g_noPart ?_ | refine g_part ?_ | refine g_partI ?_ | refine g_slS ?_ ?side | refine g_M1 ?_ | refine g_M1s ?_ | refine g_starts ?_ | refine g_bm ?_ | refine g_bm0 ?_ | refine g_tyS ?_
  | refine g_Fs ?_ | refine g_JsN ?_ | refine g_JsC ?_ | refine g_JsE ?_ ?side | refine g_fmt ?_ | refine g_fmtI ?_ ?side | refine g_fmtS ?_ ?side | refine g_iList ?_ | refine g_iTup ?_ | refine g_iStr ?_ | refine g_iStrE ?_ | refine g_iRng1 ?_ | refine g_iRng1E ?_ ?side1 ?side2 | refine g_yes ?_ | refine g_ckw ?_ | refine g_dget ?_ | refine g_dictZip ?_ | refine g_gCons ?_ | refine g_gNil ?_ | refine g_revL ?_ | refine g_for ?_ | refine g_lc ?_ | refine g_addS ?_ ?side | refine g_str ?_ ?side | refine g_lenS ?_ ?side
  | refine g_rI0 ?_ | refine g_rI ?_ ?side | refine g_rU ?_ | refine g_abs ?_ | refine g_int ?_ | refine g_intB ?_ | refine g_gcd ?_ | refine g_inS ?_ | refine g_isN0 ?_ | refine g_notN0 ?_
  | fail)
local macro_rules | `(tactic| walk_at "s1") => `(tactic| first
  | ((with_reducible refine' g_var ?h ?_); (case h => exact rfl))
  | ((with_reducible refine' g_new ?h ?_); (case h => exact (by simp only [List.length_cons, List.length_nil]; decide)); intro tnew htnew)
  | ((with_reducible refine' iteDT ?h ?_); (case h => first | exact rfl | assumption))
  | ((with_reducible refine' iteNT ?h ?_); (case h => first | exact rfl | assumption))
  | ((with_reducible refine' iteDF ?h ?_); (case h => first | assumption | (intro z; cases z)))
  | ((with_reducible refine' iteNF ?h ?_); (case h => first | assumption | (intro z; cases z)))
  | ((with_reducible refine' g_eq ?_ ?h); (case h => exact rfl))
  | ((with_reducible refine' g_ne ?_ ?h); (case h => exact rfl))
  | ((with_reducible refine' g_ixT ?_ ?h ?e); (case h => walk_at "hpT"); (case e => first | exact rfl | exact atI_0 | exact atI_1))
  | ((with_reducible refine' g_ixL ?_ ?h ?e); (case h => walk_at "hpL"); (case e => first | exact rfl | exact atI_0 | exact atI_1))
  | ((with_reducible refine' g_isi_int ?_ ?h); (case h => walk_at "kit"))
  | ((with_reducible refine' g_isi_str ?_ ?h); (case h => walk_at "kit"))
  | ((with_reducible refine' g_isi_bl ?_ ?h); (case h => walk_at "kit"))
  | ((with_reducible refine' g_isi_non ?_ ?h); (case h => walk_at "kit"))
  | ((with_reducible refine' g_isi_t ?_ ?t ?h); (case t => walk_at "hpT"); (case h => walk_at "kit"))
  | ((with_reducible refine' g_isi_l ?_ ?t ?h ?l); (case l => walk_at "hpH"); (case t => walk_at "hpL"); (case h => walk_at "kit"))
  | ((with_reducible refine' g_lenT ?_ ?h); (case h => walk_at "hpT"))
  | ((with_reducible refine' g_lenL ?_ ?h); (case h => walk_at "hpL"))
  | ((with_reducible refine' g_split ?_ ?h ?side); (case h => exact rfl); intro pnew hpnew)
  | ((with_reducible refine' g_slL ?h ?_); (case h => walk_at "hpL"); intro pnew hpnew)
  | ((with_reducible refine' g_iListE ?_ ?h); (case h => walk_at "hpL"))
  | ((with_reducible refine' g_iTupE ?_ ?h); (case h => walk_at "hpT"))
  | ((with_reducible refine' g_tyL ?_ ?h); (case h => walk_at "hpL"))
  | ((with_reducible refine' g_join ?_ ?h ?side); (case h => walk_at "hpL"))
  | ((with_reducible refine' g_append ?_ ?h ?side); (case h => walk_at "hpH"))
  | ((with_reducible refine' g_all ?_ ?h); (case h => walk_at "hpL"))
  | ((with_reducible refine' g_gTup ?_ ?h ?n); (case h => walk_at "hpT"); (case n => exact rfl))
  | ((with_reducible refine' g_revLE ?h ?_); (case h => walk_at "hpL"); intro pnew hpnew)
  | ((with_reducible refine' g_isN1 ?_ ?h); (case h => first | assumption | (intro z; cases z)))
  | ((with_reducible refine' g_notN1 ?_ ?h); (case h => first | assumption | (intro z; cases z)))
  | walk_at "call"
  | ((with_reducible refine' iteBT ?h ?_); (case h => first | assumption | exact rfl))
  | ((with_reducible refine' iteBF ?h ?_); (case h => first | assumption | exact rfl))
  | fail)
local macro_rules | `(tactic| walk_at "nrm") => `(tactic| simp only [Bool.not_true, Bool.not_false, decide_eq_true_eq, decide_true, decide_false, Bool.true_and, Bool.false_and, Bool.and_true, Bool.and_false, V.int.injEq, V.bl.injEq, V.str.injEq, List.length_cons, List.length_nil, Bool.not_eq_true', decide_eq_false_iff_not, Int.not_lt, Int.not_le, reduceCtorEq, not_false_eq_true, not_true_eq_false, Decidable.not_not] at *)
local macro_rules | `(tactic| walk_at "sp") => `(tactic| ((with_reducible refine ite2 (fun c => ?_) (fun c => ?_)) <;> (try simp only [decide_eq_true_eq, Bool.not_eq_true', decide_eq_false_iff_not, V.int.injEq, V.bl.injEq, V.str.injEq, Int.not_lt, Int.not_le, reduceCtorEq, Decidable.not_not, Bool.false_eq_true, Bool.true_eq_false] at c) <;> (try (exfalso; omega))))
local macro_rules | `(tactic| walk_at "s") => `(tactic| first | walk_at "s0" | walk_at "s1" | fail)
local macro_rules | `(tactic| walk_at "go") => `(tactic| (try dsimp only [cxK, cxK']); repeat' walk_at "s")
local macro_rules | `(tactic| walk_at "gos") => `(tactic| ((try dsimp only [cxK, cxK']); repeat' (first | walk_at "s" | walk_at "sp" | fail)))

local macro_rules | `(tactic| walk_at "hpNo") => `(tactic| with_reducible first
  | assumption
  | (refine' Nm.ofPr ?hq; (case hq => assumption))
  | (refine' Nm.same (same_new (by assumption)) ?hq; (case hq => walk_at "hpNo"))
  | (refine' Nm.same (by assumption) ?hq; (case hq => walk_at "hpNo"))
  | fail)
local macro_rules | `(tactic| walk_at "hpN") => `(tactic| with_reducible first
  | walk_at "hpNo"
  | (refine' Nm.of ?hq; (case hq => walk_at "hpH"))
  | fail)
local macro_rules | `(tactic| walk_at "hpPo") => `(tactic| with_reducible first
  | assumption
  | (refine' Pr.same (same_new (by assumption)) ?hq; (case hq => walk_at "hpPo"))
  | (refine' Pr.same (by assumption) ?hq; (case hq => walk_at "hpPo"))
  | fail)
local macro_rules | `(tactic| walk_at "hpP") => `(tactic| with_reducible first
  | walk_at "hpPo"
  | (refine' Pr.of ?hq; (case hq => walk_at "hpH"))
  | fail)
local macro_rules | `(tactic| walk_at "hpDo") => `(tactic| with_reducible first
  | assumption
  | exact Dq.int _ | exact Dq.bl _ | exact Dq.str _ | exact Dq.non
  | (refine' Dq.same (same_new (by assumption)) ?hq; (case hq => walk_at "hpDo"))
  | (refine' Dq.same (by assumption) ?hq; (case hq => walk_at "hpDo"))
  | fail)
local macro_rules | `(tactic| walk_at "hpD") => `(tactic| with_reducible first
  | walk_at "hpDo"
  | fail)

local macro_rules | `(tactic| walk_at "call") => `(tactic| first
  | ((with_reducible refine' g_lenA ?_ ?h); (case h => assumption))
  | (with_reducible refine g_callK ?_)
  | fail)
section
variable {P : Program} {w : World} {K : Fg} {mg : Str → Option Value} {base : Heap} {R CL CN f f1 f2 f3 f4 f5 f6 f7 f8 f9 fL fT cc pp : Addr} {fd fdL fdT : FuncData}
theorem ok_l_once (F : Fun K "_law_once" "_law_once" s_l_once f fd) (T : Blt mg) (Z : Bl P w K mg base R CL) (g_loft : mg "loft" = some (.ref fL)) (k_loft : PySem.W.keepIn K (.ref fL) = true) (G_loft : FnOk P w K mg base (L2.CX P w) 7 fL fdL ["lower", "z0", "upper", "z1"] (spLoft CN CL)) (B_loft : Binds K fdL ["lower", "z0", "upper", "z1"] [])
    (KB_loft : KBinds K fdL ["lower", "z0", "upper", "z1"] ["z1", "upper", "z0", "lower"] (fun us ws => gRev us ws) (fun us ws => gRev us ws)) (F_try : Fun K "_law_try" "_law_try" s_l_try fT fdT) (b_try : Binds K fdT ["_law_ask"] []) (g_try : mg "_law_try" = some (.ref fT)) (hco : fd.code = .ref cc) (TB : LamX.TabB base mg cc pp)
    (D_l_any : Df P w K mg base 4 "_law_any" f1 ["_law_bag_here"] spAny) (D_l_draw : Df P w K mg base 1 "_law_draw" f2 ["_law_bag_here", "_law_many_y"] spDraw) (D_l_handed : Df P w K mg base 3 "_law_handed" f3 ["_law_bag_here", "_law_spots_here"] spHandedS) (D_l_hand : Df P w K mg base 2 "_law_hand" f4 ["_law_bag_here", "_law_p"] spHand) (D_l_lt : Df P w K mg base 1 "_law_lt" f5 ["_law_p", "_law_q"] spBelow)
    (D_l_same : Df P w K mg base 5 "_law_same" f6 ["_law_found", "_law_due"] (spLike 4)) (D_l_right : Df P w K mg base 6 "_law_right" f7 ["_law_made", "_law_pair"] (spRight CN)) (D_l_loft : Df P w K mg base 1 "_law_loft" f8 ["_law_base", "_law_low_here", "_law_cap", "_law_high"] spLLoft) : FnOk P w K mg base CX0 10 f fd ["_law_bag_here"] (spOnce [(pp, lamQ)]) := by
  obtain ⟨_, G_l_any, B_l_any⟩ := D_l_any.ok
  obtain ⟨_, G_l_draw, B_l_draw⟩ := D_l_draw.ok
  obtain ⟨_, G_l_handed, B_l_handed⟩ := D_l_handed.ok
  obtain ⟨_, G_l_hand, B_l_hand⟩ := D_l_hand.ok
  obtain ⟨_, G_l_lt, B_l_lt⟩ := D_l_lt.ok
  obtain ⟨_, G_l_same, B_l_same⟩ := D_l_same.ok
  obtain ⟨_, G_l_right, B_l_right⟩ := D_l_right.ok
  obtain ⟨_, G_l_loft, B_l_loft⟩ := D_l_loft.ok
  generalize hTT : [(pp, lamQ)] = TT
  refine Ko.Fun.okC F sc_l_once (fun vs H Q E h => ?_) (fun cdv hcv A outer s H vs Q E hr h => ?_)
  · obtain ⟨N, b, c, rfl, _⟩ := h
    rfl
  · obtain ⟨N, b, c, rfl, B, t0, hN, k⟩ := h
    obtain rfl : cdv = .ref cc := hcv.symm.trans hco
    refine ⟨_, (pss_cons (ps_asg (pe_call G_l_any (hr.mono (by decide)) (by rfl) D_l_any.g D_l_any.kp B_l_any .nil pass0 (pa_cons (pv 0) pa_nil)) (pg_tup rfl (pgs_cons (pg_name (i := 1) sc_l_once.nd rfl (.inl rfl)) (pgs_cons (pg_name (i := 2) sc_l_once.nd rfl (.inl rfl)) (pgs_cons (pg_name (i := 3) sc_l_once.nd rfl (.inl rfl)) (pgs_cons (pg_name (i := 4) sc_l_once.nd rfl (.inl rfl)) pgs_nil))))))
      (pss_cons (ps_asg (pe_tup (pa_cons (pe_call G_l_handed (hr.mono (by decide)) (by rfl) D_l_handed.g D_l_handed.kp B_l_handed .nil pass0 (pa_cons (pv 0) (pa_cons (pv 1) pa_nil))) (pa_cons (pe_call G_l_handed (hr.mono (by decide)) (by rfl) D_l_handed.g D_l_handed.kp B_l_handed .nil pass0 (pa_cons (pv 0) (pa_cons (pv 3) pa_nil))) pa_nil))) (pg_tup rfl (pgs_cons (pg_name (i := 5) sc_l_once.nd rfl (.inr rfl)) (pgs_cons (pg_name (i := 6) sc_l_once.nd rfl (.inr rfl)) pgs_nil))))
      (pss_cons (ps_asg (pe_tup (pa_cons (pe_call G_l_hand (hr.mono (by decide)) (by rfl) D_l_hand.g D_l_hand.kp B_l_hand .nil pass0 (pa_cons (pv 0) (pa_cons (pv 2) pa_nil))) (pa_cons (pe_call G_l_hand (hr.mono (by decide)) (by rfl) D_l_hand.g D_l_hand.kp B_l_hand .nil pass0 (pa_cons (pv 0) (pa_cons (pv 4) pa_nil))) pa_nil))) (pg_tup rfl (pgs_cons (pg_name (i := 7) sc_l_once.nd rfl (.inr rfl)) (pgs_cons (pg_name (i := 8) sc_l_once.nd rfl (.inr rfl)) pgs_nil))))
      (pss_cons (ps_if (pt_cmpR op_eq (pe_call G_l_draw (hr.mono (by decide)) (by rfl) D_l_draw.g D_l_draw.kp B_l_draw .nil pass0 (pa_cons (pv 0) (pa_cons pe_int pa_nil))) pe_int (nomark _))
      (pss_one (ps_set (i := 9) sc_l_once.nd rfl (.inl rfl) (by exact lam_a T Z g_loft k_loft G_loft B_loft F_try b_try g_try TB hTT.symm hr))) (pss_one (ps_set (i := 9) sc_l_once.nd rfl (.inl rfl) (by exact lam_b T Z g_loft k_loft G_loft KB_loft F_try b_try g_try TB hTT.symm hr))))
      (pss_cons (ps_if (PW.pt (pw_or (pt_cmpR op_ne (pe_callB (cg_lenK K) (by rfl) T.n_len (by decide +kernel) (pa_cons (pv 1) pa_nil)) (pe_callB (cg_lenK K) (by rfl) T.n_len (by decide +kernel) (pa_cons (pv 3) pa_nil)) (nomark _)) (pw_or (pt_cmpR op_lt (pe_callB (cg_lenK K) (by rfl) T.n_len (by decide +kernel) (pa_cons (pv 1) pa_nil)) pe_int (nomark _)) (pw_or1 (pt_not (pt_val (pe_call G_l_lt (hr.mono (by decide)) (by rfl) D_l_lt.g D_l_lt.kp B_l_lt .nil pass0 (pa_cons (pv 2) (pa_cons (pv 4) pa_nil)))))))))
      (pss_one (ps_ret (pe_call G_l_same (hr.mono (by decide)) (by rfl) D_l_same.g D_l_same.kp B_l_same .nil pass0 (pa_cons (pv 9) (pa_cons (pe_tup (pa_cons pe_str pa_nil)) pa_nil))))) pss_nil)
      (pss_cons (ps_if (PW.pt (pw_or (pt_cmpR op_ne (pe_ix (ix_seqK K) (pv 9) pe_int (fun _ _ => rfl)) pe_str (nomark _)) (pw_or (pt_cmpR op_ne (pe_callB (cg_lenK K) (by rfl) T.n_len (by decide +kernel) (pa_cons (pv 5) pa_nil)) (pe_callB (cg_lenK K) (by rfl) T.n_len (by decide +kernel) (pa_cons (pv 1) pa_nil)) (nomark _)) (pw_or1 (pt_cmpR op_ne (pe_callB (cg_lenK K) (by rfl) T.n_len (by decide +kernel) (pa_cons (pv 6) pa_nil)) (pe_callB (cg_lenK K) (by rfl) T.n_len (by decide +kernel) (pa_cons (pv 3) pa_nil)) (nomark _))))))
      (pss_one (ps_ret pe_bl)) pss_nil)
      (pss_cons (ps_expr (pe_bm PySem.F.plainAttrs_list PySem.F.slot_list_append PySem.F.type_list_append mt_append (pv 5) (pa_cons (pe_tup (pa_cons pe_int (pa_cons pe_int pa_nil))) pa_nil)))
      (pss_cons (ps_expr (pe_bm0 PySem.F.plainAttrs_list PySem.F.slot_list_clear PySem.F.type_list_clear mt_clear (pv 6)))
      (pss_one (ps_ret (pe_call G_l_right (hr.mono (by decide)) (by rfl) D_l_right.g D_l_right.kp B_l_right .nil pass0 (pa_cons (pe_ix (ix_seqK K) (pv 9) pe_int (fun _ _ => rfl)) (pa_cons (pe_call G_l_loft (hr.mono (by decide)) (by rfl) D_l_loft.g D_l_loft.kp B_l_loft .nil pass0 (pa_cons (pv 1) (pa_cons (pv 2) (pa_cons (pv 3) (pa_cons (pv 4) pa_nil))))) pa_nil))))))))))))), ?_⟩
    walk_at "go"
    refine ⟨N, b, c, rfl, B, by omega, fun t l1 l2 t1 t2 ss ts p q H1 s1 B1 ht L1 L2 p1 p2 z1 z2 => ?_⟩
    obtain ⟨a1, rfl, p1⟩ := p1
    obtain ⟨a2, rfl, p2⟩ := p2
    have T1 : LamX.Tabs TT H1 := tabs_mt (hTT ▸ t0) (Mt.bag B s1)
    clear s1 B
    walk_at "go"
    obtain ⟨xs1, n1, hx1, dx1, sm1, le1⟩ := id L1
    obtain ⟨xs2, n2, hx2, dx2, sm2, le2⟩ := id L2
    have ok1 : ∀ s ∈ ss, SpOk s := fun s hs => ⟨(sm1 s hs).1.1, (sm1 s hs).2.1⟩
    have ok2 : ∀ s ∈ ts, SpOk s := fun s hs => ⟨(sm2 s hs).1.1, (sm2 s hs).2.1⟩
    refine ⟨_, b, c, l1, xs1, ss, rfl, B1, by omega, mk_at hx1 n1, dx1, ok1, by omega, fun g1 H2 ys1 hds1 s2 B2 f1 m1 hg1 dg1 ph1 nl1 => ?_⟩
    have gc1 : g1 ≠ c := (B1.free (show H1 g1 = none by have f := f1; rw [delH_ne m1] at f; exact f)).2
    have e11 := ne_of_none (mk_at hx1 n1) f1
    have e21 := ne_of_none (mk_at hx2 n2) f1
    have hx1 := s2 _ _ (mk_at hx1 n1)
    have hx2 := s2 _ _ (mk_at hx2 n2)
    have dx2 := dx2.same s2
    have T2 := tabs_mt T1 (Mt.bag B1 s2)
    have L1 := L1.bag s2
    have L2 := L2.bag s2
    have p1 := s2 _ _ p1
    have p2 := s2 _ _ p2
    have ht2 := s2 _ _ (mk_tup ht B1)
    have G1 : GvL b H2 g1 ss := ⟨ys1, hds1, m1, hg1, dg1, ph1, nl1⟩
    clear T1 B1 s2 f1 dg1 ph1 nl1 dx1 ht
    walk_at "go"
    refine ⟨_, b, c, l2, xs2, ts, rfl, B2, by omega, hx2, dx2, ok2, by omega, fun g2 H3 ys2 hds2 s3 B3 f2 m2 hg2 dg2 ph2 nl2 => ?_⟩
    have gc2 : g2 ≠ c := (B2.free (show H2 g2 = none by have f := f2; rw [delH_ne m2] at f; exact f)).2
    have e12 := ne_of_none hx1 f2
    have e22 := ne_of_none hx2 f2
    have gn1 : g1 ≠ g2 := ne_of_none (mk_at hg1 m1) f2
    have T3 := tabs_mt T2 (Mt.bag B2 s3)
    have L1 := L1.bag s3
    have L2 := L2.bag s3
    have p1 := s3 _ _ p1
    have p2 := s3 _ _ p2
    have ht3 := s3 _ _ ht2
    have G1 := G1.bag s3
    have G2 : GvL b H3 g2 ts := ⟨ys2, hds2, m2, hg2, dg2, ph2, nl2⟩
    clear T2 B2 s3 f2 dg2 ph2 nl2 dx2 ht2 hx1 hx2 hg1 hg2
    walk_at "go"
    rename_i tn ntn
    have u3 : Same (delH H3 b) (delH (upd H3 tn (.tup [.ref g1, .ref g2])) b) := mk_upd ntn
    have B4 := bag_upd (o := .tup [.ref g1, .ref g2]) B3 ntn
    have T4 := tabs_mt T3 (Mt.of (same_new (o := .tup [.ref g1, .ref g2]) ntn))
    generalize upd H3 tn (.tup [.ref g1, .ref g2]) = H4 at u3 B4 T4
    have L1 := L1.bag u3
    have L2 := L2.bag u3
    have p1 := u3 _ _ p1
    have p2 := u3 _ _ p2
    have G1 := G1.bag u3
    have G2 := G2.bag u3
    clear ht3 u3 B3 T3 ntn
    refine sp_hand (fun x1 H5 v1 s5 B5 => ?_) p1 B4 (by omega)
    have L1 := L1.bag s5
    have L2 := L2.bag s5
    have p1 := s5 _ _ p1
    have p2 := s5 _ _ p2
    have G1 := G1.bag s5
    have G2 := G2.bag s5
    have T5 := tabs_mt T4 (Mt.bag B4 s5)
    have v1 := NvD.of v1 z1.1
    clear B4 T4 s5
    walk_at "go"
    refine sp_hand (fun x2 H6 v2 s6 B6 => ?_) p2 B5 (by omega)
    have S6 : Sx TT b c l1 l2 g1 g2 a1 a2 x1 x2 ss ts p q (N - 242) H6 := ⟨B6.le (by omega), tabs_mt T5 (Mt.bag B5 s6), L1.bag s6, L2.bag s6, G1.bag s6, G2.bag s6, s6 _ _ p1, s6 _ _ p2, v1.bag s6, NvD.of v2 z2.1⟩
    clear T5 B5 s6 L1 L2 p1 p2 G1 G2 v1 v2 B6
    repeat (first | (fail_if_success (with_reducible refine g_ifS ?_)); walk_at "s")
    rename_i tm ntm
    have S7 := S6.same (same_new (o := .tup [x1, x2]) ntm)
    generalize upd H6 tm (.tup [x1, x2]) = H7 at S7
    clear S6 ntm
    refine join_S (fun σ' H' => ∃ fo, σ' = [some (.ref b), some (.ref l1), some (.ref a1), some (.ref l2), some (.ref a2), some (.ref g1), some (.ref g2), some x1, some x2, some (.ref fo)] ∧ Sx TT b c l1 l2 g1 g2 a1 a2 x1 x2 ss ts p q (N - 243) H' ∧ Fnd CN (loftOk ss.length ts.length p q) ss p ts q fo H') (fun nx' jn => ?_) (fun σ' H' h' => ?_)
    · walk_at "go"
      refine sp_draw (fun i H8 i0 i1 s8 B8 => ?_) S7.B (by omega) (by omega) (by omega)
      have S8 := (S7.bag s8 B8).le (show N - 243 ≤ N - 242 - 1 by omega)
      clear s8 B8 S7
      have fin : ∀ (fo : Addr) (H' : Hp) (tp : List V), Sx TT b c l1 l2 g1 g2 a1 a2 x1 x2 ss ts p q (N - 243) H' → H' fo = none → ((loftOk ss.length ts.length p q = true ∧ ∃ v, tp = [.str "", v] ∧ NetO CN H' v ((loftC ss p ts q).map cnD) ((loftF ss.length).map fcD)) ∨ (loftOk ss.length ts.length p q = false ∧ tp = [.str "BadLoft"])) → nx' [some (.ref b), some (.ref l1), some (.ref a1), some (.ref l2), some (.ref a2), some (.ref g1), some (.ref g2), some x1, some x2, some (.ref fo)] (upd H' fo (.tup tp)) := fun fo H' tp S' nf h => by
        refine jn _ _ ⟨fo, rfl, S'.same (same_new nf), fun e => ?_, fun e => ?_⟩
        · rcases h with ⟨_, v, rfl, hv⟩ | ⟨e', _⟩
          · exact ⟨v, upd_same, hv.same (same_new nf)⟩
          · rw [e] at e'
            cases e'
        · rcases h with ⟨e', _⟩ | ⟨_, rfl⟩
          · rw [e] at e'
            cases e'
          · exact upd_same
      by_cases ci : V.int i = V.int 0
      · walk_at "go"
        refine ⟨S8.t, fun H9 e9 t9 => ?_⟩
        have S9 := S8.ext e9 t9
        clear S8 e9 t9
        obtain ⟨ys1, hds1, _, hg1, dg1, ph1, nl1⟩ := S9.G1
        obtain ⟨ys2, hds2, _, hg2, dg2, ph2, nl2⟩ := S9.G2
        unfold TTry
        walk_at "go"
        refine sx_loft (.inl hg1) (.inl hg2) (dg1.same mk_same) (dg2.same mk_same) ph1 ph2 S9.v1 S9.v2 z1 z2 le1 le2 (fun e x H10 s10 hn => ?_) (fun e d H10 s10 hd => ?_)
        · refine ⟨by show 2 ≤ sizeLine; rw [sizeLine_eq]; decide, fun fo nf => ?_⟩
          walk_at "go"
          exact fin fo H10 _ (S9.same s10) nf (.inl ⟨e, _, rfl, hn⟩)
        · refine ⟨rfl, hd, fun fo nf => ?_⟩
          walk_at "go"
          exact fin fo H10 _ (S9.same s10) nf (.inr ⟨e, rfl⟩)
      · walk_at "go"
        refine ⟨S8.t, fun H9 e9 t9 => ?_⟩
        have S9 := S8.ext e9 t9
        clear S8 e9 t9
        obtain ⟨ys1, hds1, _, hg1, dg1, ph1, nl1⟩ := S9.G1
        obtain ⟨ys2, hds2, _, hg2, dg2, ph2, nl2⟩ := S9.G2
        unfold TTry
        walk_at "go"
        refine g_tupA (.inl hg2) fun u2 Ha sa _ hu2 => ?_
        walk_at "go"
        refine g_tupA (.inl (sa _ _ hg1)) fun u1 Hb sb _ hu1 => ?_
        walk_at "go"
        have sab := sa.trans sb
        have Sb := S9.same sab
        show spLoft CN CL [.ref u1, x1, .ref u2, x2] Hb _ _
        refine sx_loft (.inr hu1) (.inr (sb _ _ hu2)) ((dg1.same mk_same).same sab) ((dg2.same mk_same).same sab) ph1 ph2 Sb.v1 Sb.v2 z1 z2 le1 le2 (fun e x H10 s10 hn => ?_) (fun e d H10 s10 hd => ?_)
        · refine ⟨by show 2 ≤ sizeLine; rw [sizeLine_eq]; decide, fun fo nf => ?_⟩
          walk_at "go"
          exact fin fo H10 _ (Sb.same s10) nf (.inl ⟨e, _, rfl, hn⟩)
        · refine ⟨rfl, hd, fun fo nf => ?_⟩
          walk_at "go"
          exact fin fo H10 _ (Sb.same s10) nf (.inr ⟨e, rfl⟩)
    · obtain ⟨fo, rfl, S, fo1, fo2⟩ := h'
      obtain ⟨ys1, hds1, _, hg1, dg1, ph1, nl1⟩ := S.G1
      obtain ⟨ys2, hds2, _, hg2, dg2, ph2, nl2⟩ := S.G2
      obtain ⟨xs1, _, hx1, dx1, _⟩ := S.L1
      obtain ⟨xs2, _, hx2, dx2, _⟩ := S.L2
      have lx1 := dx1.length
      have lx2 := dx2.length
      rw [List.length_map] at lx1 lx2
      have lg1 : ys1.length = ss.length := dg1.length.trans ph1.length
      have lg2 : ys2.length = ts.length := dg2.length.trans ph2.length
      have bad : loftOk ss.length ts.length p q = false → ∀ t, H' t = none → spLike 4 [.ref fo, .ref t] (upd H' t (.tup [.str "BadLoft"])) Q E0 := fun e t nt => by
        refine sp_like (d := .tup [.str "BadLoft"]) (.tup (same_new nt _ _ (fo2 e)) (.cons (.str _) .nil)) (.tup upd_same (.cons (.str _) .nil)) ?_ fun H9 s9 => ?_
        · refine ⟨by show 1 ≤ 1000; decide, fun d hd => ?_⟩
          simp only [List.mem_cons, List.not_mem_nil, or_false] at hd
          cases hd
          trivial
        · have S9 := (S.same (same_new nt)).same s9
          exact k _ (hTT ▸ S9.t) (S9.B.le (by omega))
      by_cases c1 : V.int (xs1.length : Int) = V.int (xs2.length : Int)
      · have c1' : ss.length = ts.length := by have := V.int.inj c1; omega
        by_cases c2 : (xs1.length : Int) < 3
        · have e : loftOk ss.length ts.length p q = false := by
            unfold loftOk
            rw [decide_eq_false (show ¬ 3 ≤ ss.length by omega), Bool.false_and, Bool.and_false]
          walk_at "go"
          exact bad e _ (by assumption)
        · have c2' : 3 ≤ ss.length := by omega
          walk_at "go"
          refine sp_below ⟨a1, rfl, mk_same _ _ S.p1⟩ ⟨a2, rfl, mk_same _ _ S.p2⟩ z1.sz z2.sz ?_
          have e0 : loftOk ss.length ts.length p q = under p q := by
            unfold loftOk
            rw [decide_eq_true c1', decide_eq_true c2']
            rfl
          by_cases c3 : under p q = true
          · rw [c3] at e0 ⊢
            obtain ⟨v, hfo, hn⟩ := fo1 e0
            clear bad fo1 fo2
            have c4 : V.int (ys1.length : Int) = V.int (xs1.length : Int) := by rw [lg1, lx1]
            have c5 : V.int (ys2.length : Int) = V.int (xs2.length : Int) := by rw [lg2, lx2]
            have szy : ys1.length < sizeLine := Nat.lt_of_lt_of_le (show ys1.length < 1000 by omega) (by rw [sizeLine_eq]; decide)
            walk_at "go"
            any_goals exact szy
            rename_i tn ntn
            have s1 := same_new (o := .tup [.int 0, .int 0]) ntn
            have S1 := S.same s1
            have hx1 := s1 _ _ hx1
            have hx2 := s1 _ _ hx2
            have hg1 := s1 _ _ hg1
            have hg2 := s1 _ _ hg2
            have hfo := s1 _ _ hfo
            have hn := hn.same s1
            generalize upd H' tn (.tup [.int 0, .int 0]) = H1 at S1 hx1 hx2 hg1 hg2 hfo hn
            clear dx1 dx2
            obtain ⟨xs1', _, hx1', dx1, _⟩ := S1.L1
            obtain ⟨xs2', _, hx2', dx2, _⟩ := S1.L2
            obtain rfl : xs1 = xs1' := by
              have := hx1.symm.trans hx1'
              cases this
              rfl
            obtain rfl : xs2 = xs2' := by
              have := hx2.symm.trans hx2'
              cases this
              rfl
            have dx1 := dx1.same mk_same
            have dx2 := dx2.same mk_same
            have hg2b : upd H1 g1 (.lst (ys1 ++ [.ref tn])) g2 = some (.lst ys2) := (upd_ne gn1.symm).trans hg2
            have m0 : Mt H1 (upd (upd H1 g1 (.lst (ys1 ++ [.ref tn]))) g2 (.lst [])) := (Mt.set hg1).trans (Mt.set hg2b)
            have k1 : upd (upd H1 g1 (.lst (ys1 ++ [.ref tn]))) g2 (.lst []) l1 = some (.lst xs1) := (upd_ne e12).trans ((upd_ne e11).trans hx1)
            have k2 : upd (upd H1 g1 (.lst (ys1 ++ [.ref tn]))) g2 (.lst []) l2 = some (.lst xs2) := (upd_ne e22).trans ((upd_ne e21).trans hx2)
            have B2 := bag_put (o := .lst []) (bag_put (o := .lst (ys1 ++ [.ref tn])) S1.B m1 gc1) m2 gc2
            refine g_tyL ?_ (SqL.of hg2b)
            refine ⟨g2, _, rfl, rfl, hg2b, ?_⟩
            have t2 := tabs_mt S1.t m0
            have dx1 := dx1.mu m0.mu (sps_noL _)
            have dx2 := dx2.mu m0.mu (sps_noL _)
            have p1 := m0 _ _ (mk_same _ _ S1.p1) (fun _ z => by cases z)
            have p2 := m0 _ _ (mk_same _ _ S1.p2) (fun _ z => by cases z)
            have hfo := m0 _ _ hfo (fun _ z => by cases z)
            have noC : ∀ cs : List Cn, Dt.noLs (cs.map cnD) = true := fun cs => noLs_iff.mpr fun d hd => by
              obtain ⟨c, _, rfl⟩ := List.mem_map.mp hd
              rfl
            have hn := hn.mu m0.mu (noC _) (fc_noLs _)
            generalize upd (upd H1 g1 (.lst (ys1 ++ [.ref tn]))) g2 (.lst []) = H2 at k1 k2 B2 t2 dx1 dx2 p1 p2 hfo hn
            clear m0 hg2b S1 hx1 hx2 hx1' hx2' hg1 hg2
            walk_at "go"
            refine ⟨l1, l2, a1, a2, xs1, xs2, ss, ts, p, q, rfl, k1, k2, dx1, dx2, p1, p2, c2', by omega, by omega, fun r H3 s3 dr => ?_⟩
            obtain ⟨zs, pz⟩ := small_zs sm1
            obtain ⟨ws, pw⟩ := small_zs sm2
            obtain ⟨zp, ip, bp⟩ := small_is z1
            obtain ⟨zq, iq, bq⟩ := small_is z2
            have h2m : (loftC ss p ts q).length = 2 * ss.length := by
              unfold loftC
              rw [List.length_append, List.length_map, List.length_map]
              omega
            have fok : ∀ f ∈ loftF ss.length, FcOk (loftC ss p ts q).length f := by
              rw [h2m]
              exact loftF_ok c2'
            have fln := loftF_len c2'
            walk_at "go"
            refine ⟨v, r, loftC ss p ts q, loftF ss.length, _, rfl, hn.same s3, dr, paired_app (cn_pair ip bp pz) (cn_pair iq bq pw), fok, by omega, by omega, fun ks hk => clo_rows c2' (by omega) ks hk, fun H4 s4 => ?_⟩
            walk_at "go"
            have t4 : LamX.Tabs TT H4 := tabs_mt t2 (Mt.of (s3.trans s4))
            exact k _ (hTT ▸ t4) ((B2.same (s3.trans s4)).le (by omega))
          · rw [Bool.eq_false_iff.mpr c3] at e0 ⊢
            walk_at "go"
            exact bad e0 _ (by assumption)
      · have e : loftOk ss.length ts.length p q = false := by
          unfold loftOk
          rw [decide_eq_false (show ¬ ss.length = ts.length from fun z => c1 (by rw [lx1, lx2, z])), Bool.false_and]
        walk_at "go"
        exact bad e _ (by assumption)
end
end Ko


namespace Ko
open PySem L2 PySem.Spec PyProof.Rows Xm
def spLaw (K : PySem.W.Frag) (T : List (Addr × Str)) : Sp := fun vs H Q _ => ∃ (a : Addr) (ns : List Int), vs = [.ref a] ∧ SqL K H a (ns.map V.int) ∧ LamX.Tabs T H ∧ ∀ H', Q (.bl true) H'

local macro_rules | `(tactic| walk_at "hpS") => `(tactic| with_reducible first
  | exact Same.refl _
  | assumption
  | (refine' Same.trans ?hq (same_new (by assumption)); (case hq => walk_at "hpS"))
  | (refine' Same.trans ?hq (by assumption); (case hq => walk_at "hpS"))
  | fail)
local macro_rules | `(tactic| walk_at "hpH") => `(tactic| with_reducible first
  | assumption
  | exact upd_same
  | (refine' same_at (same_new (by assumption)) ?hq; (case hq => walk_at "hpH"))
  | (refine' same_at (by assumption) ?hq; (case hq => walk_at "hpH"))
  | fail)
local macro_rules | `(tactic| walk_at "hpTo") => `(tactic| with_reducible first
  | assumption
  | (refine' sq_t (same_new (by assumption)) ?hq; (case hq => walk_at "hpTo"))
  | (refine' sq_t (by assumption) ?hq; (case hq => walk_at "hpTo"))
  | fail)
local macro_rules | `(tactic| walk_at "hpT") => `(tactic| with_reducible first
  | (refine' SqT.of ?hq; (case hq => walk_at "hpH"))
  | walk_at "hpTo"
  | fail)
local macro_rules | `(tactic| walk_at "hpLo") => `(tactic| with_reducible first
  | assumption
  | (refine' sq_l (same_new (by assumption)) ?hq; (case hq => walk_at "hpLo"))
  | (refine' sq_l (by assumption) ?hq; (case hq => walk_at "hpLo"))
  | fail)
local macro_rules | `(tactic| walk_at "hpL") => `(tactic| with_reducible first
  | (refine' SqL.of ?hq; (case hq => walk_at "hpH"))
  | walk_at "hpLo"
  | fail)
local macro_rules | `(tactic| walk_at "kit") => `(tactic| with_reducible first
  | exact kit_int_bool | exact kit_int_int | exact kit_int_tuple | exact kit_int_list | exact kit_int_str
  | exact kit_tuple_tuple | exact kit_tuple_int | exact kit_tuple_bool | exact kit_tuple_list | exact kit_tuple_str
  | exact kit_bool_bool | exact kit_bool_int | exact kit_bool_tuple | exact kit_bool_list | exact kit_bool_str
  | exact kit_str_str | exact kit_str_int | exact kit_str_bool | exact kit_str_tuple | exact kit_str_list
  | exact kit_NoneType_int | exact kit_NoneType_bool | exact kit_NoneType_tuple | exact kit_NoneType_list | exact kit_NoneType_str
  | exact kit_list_list | exact kit_list_tuple | exact kit_list_int | exact kit_list_bool | exact kit_list_str
  | fail)
local macro_rules | `(tactic| walk_at "call") => `(tactic| fail)
local macro_rules | `(tactic| walk_at "s0") => `(tactic| with_reducible first
  | refine g_seq ?_ | refine g_asg ?_ | refine g_name ?_ | refine g_ifS ?_ | refine g_ret ?_ | refine g_retN ?_ | refine g_next ?_
  | refine g_par ?_ | refine g_parE ?_ | refine g_drop ?_
  | refine g_c ?_ | refine g_op ?_ | refine g_un ?_ | refine g_cb ?_ | refine g_call ?_ | refine g_nil ?_ | refine g_cons ?_ | refine g_tup ?_ | refine g_lst ?_
  | refine g_test ?_ | refine g_B ?_ | refine g_blF ?_ | refine g_and ?_ | refine g_or ?_ | refine g_not ?_ | refine g_andV ?_ | refine g_orV ?_ | refine g_notV ?_ | refine g_if ?_
  | refine iteT ?_ | refine iteF ?_
  | refine g_chain ?_ | refine g_sl ?_ | refine g_noPart ?_ | refine g_part ?_ | refine g_partI ?_ | refine g_slS ?_ ?side | refine g_M1 ?_ | refine g_M1s ?_ | refine g_starts ?_ | refine g_bm ?_ | refine g_bm0 ?_ | refine g_tyS ?_
  | refine g_Fs ?_ | refine g_JsN ?_ | refine g_JsC ?_ | refine g_JsE ?_ ?side | refine g_fmt ?_ | refine g_fmtI ?_ ?side | refine g_fmtS ?_ ?side | refine g_iList ?_ | refine g_iTup ?_ | refine g_iStr ?_ | refine g_iStrE ?_ | refine g_iRng1 ?_ | refine g_iRng1E ?_ ?side1 ?side2 | refine g_yes ?_ | refine g_ckw ?_ | refine g_dget ?_ | refine g_dictZip ?_ | refine g_gCons ?_ | refine g_gNil ?_ | refine g_revL ?_ | refine g_for ?_ | refine g_lc ?_ | refine g_addS ?_ ?side | refine g_str ?_ ?side | refine g_lenS ?_ ?side
  | refine g_rI0 ?_ | refine g_rI ?_ ?side | refine g_rU ?_ | refine g_abs ?_ | refine g_int ?_ | refine g_intB ?_ | refine g_gcd ?_ | refine g_inS ?_ | refine g_isN0 ?_ | refine g_notN0 ?_
  | fail)
local macro_rules | `(tactic| walk_at "s1") => `(tactic| first
  | ((with_reducible refine' g_var ?h ?_); (case h => exact rfl))
  | ((with_reducible refine' g_new ?h ?_); (case h => exact (by simp only [List.length_cons, List.length_nil]; decide)); intro tnew htnew)
  | ((with_reducible refine' iteDT ?h ?_); (case h => first | exact rfl | assumption))
  | ((with_reducible refine' iteNT ?h ?_); (case h => first | exact rfl | assumption))
  | ((with_reducible refine' iteDF ?h ?_); (case h => first | assumption | (intro z; cases z)))
  | ((with_reducible refine' iteNF ?h ?_); (case h => first | assumption | (intro z; cases z)))
  | ((with_reducible refine' g_eq ?_ ?h); (case h => exact rfl))
  | ((with_reducible refine' g_ne ?_ ?h); (case h => exact rfl))
  | ((with_reducible refine' g_ixT ?_ ?h ?e); (case h => walk_at "hpT"); (case e => first | exact rfl | exact atI_0 | exact atI_1))
  | ((with_reducible refine' g_ixL ?_ ?h ?e); (case h => walk_at "hpL"); (case e => first | exact rfl | exact atI_0 | exact atI_1))
  | ((with_reducible refine' g_isi_int ?_ ?h); (case h => walk_at "kit"))
  | ((with_reducible refine' g_isi_str ?_ ?h); (case h => walk_at "kit"))
  | ((with_reducible refine' g_isi_bl ?_ ?h); (case h => walk_at "kit"))
  | ((with_reducible refine' g_isi_non ?_ ?h); (case h => walk_at "kit"))
  | ((with_reducible refine' g_isi_t ?_ ?t ?h); (case t => walk_at "hpT"); (case h => walk_at "kit"))
  | ((with_reducible refine' g_isi_l ?_ ?t ?h ?l); (case l => walk_at "hpH"); (case t => walk_at "hpL"); (case h => walk_at "kit"))
  | ((with_reducible refine' g_lenT ?_ ?h); (case h => walk_at "hpT"))
  | ((with_reducible refine' g_lenL ?_ ?h); (case h => walk_at "hpL"))
  | ((with_reducible refine' g_split ?_ ?h ?side); (case h => exact rfl); intro pnew hpnew)
  | ((with_reducible refine' g_slL ?h ?_); (case h => walk_at "hpL"); intro pnew hpnew)
  | ((with_reducible refine' g_iListE ?_ ?h); (case h => walk_at "hpL"))
  | ((with_reducible refine' g_iTupE ?_ ?h); (case h => walk_at "hpT"))
  | ((with_reducible refine' g_tyL ?_ ?h); (case h => walk_at "hpL"))
  | ((with_reducible refine' g_join ?_ ?h ?side); (case h => walk_at "hpL"))
  | ((with_reducible refine' g_append ?_ ?h ?side); (case h => walk_at "hpH"))
  | ((with_reducible refine' g_all ?_ ?h); (case h => walk_at "hpL"))
  | ((with_reducible refine' g_gTup ?_ ?h ?n); (case h => walk_at "hpT"); (case n => exact rfl))
  | ((with_reducible refine' g_revLE ?h ?_); (case h => walk_at "hpL"); intro pnew hpnew)
  | ((with_reducible refine' g_isN1 ?_ ?h); (case h => first | assumption | (intro z; cases z)))
  | ((with_reducible refine' g_notN1 ?_ ?h); (case h => first | assumption | (intro z; cases z)))
  | walk_at "call"
  | ((with_reducible refine' iteBT ?h ?_); (case h => first | assumption | exact rfl))
  | ((with_reducible refine' iteBF ?h ?_); (case h => first | assumption | exact rfl))
  | fail)
local macro_rules | `(tactic| walk_at "nrm") => `(tactic| simp only [Bool.not_true, Bool.not_false, decide_eq_true_eq, decide_true, decide_false, Bool.true_and, Bool.false_and, Bool.and_true, Bool.and_false, V.int.injEq, V.bl.injEq, V.str.injEq, List.length_cons, List.length_nil, Bool.not_eq_true', decide_eq_false_iff_not, Int.not_lt, Int.not_le, reduceCtorEq, not_false_eq_true, not_true_eq_false, Decidable.not_not] at *)
local macro_rules | `(tactic| walk_at "sp") => `(tactic| ((with_reducible refine ite2 (fun c => ?_) (fun c => ?_)) <;> (try simp only [decide_eq_true_eq, Bool.not_eq_true', decide_eq_false_iff_not, V.int.injEq, V.bl.injEq, V.str.injEq, Int.not_lt, Int.not_le, reduceCtorEq, Decidable.not_not, Bool.false_eq_true, Bool.true_eq_false] at c) <;> (try (exfalso; omega))))
local macro_rules | `(tactic| walk_at "s") => `(tactic| first | walk_at "s0" | walk_at "s1" | fail)
local macro_rules | `(tactic| walk_at "go") => `(tactic| (try dsimp only [cxK, cxK']); repeat' walk_at "s")
local macro_rules | `(tactic| walk_at "gos") => `(tactic| ((try dsimp only [cxK, cxK']); repeat' (first | walk_at "s" | walk_at "sp" | fail)))

local macro_rules | `(tactic| walk_at "hpNo") => `(tactic| with_reducible first
  | assumption
  | (refine' Nm.ofPr ?hq; (case hq => assumption))
  | (refine' Nm.same (same_new (by assumption)) ?hq; (case hq => walk_at "hpNo"))
  | (refine' Nm.same (by assumption) ?hq; (case hq => walk_at "hpNo"))
  | fail)
local macro_rules | `(tactic| walk_at "hpN") => `(tactic| with_reducible first
  | walk_at "hpNo"
  | (refine' Nm.of ?hq; (case hq => walk_at "hpH"))
  | fail)
local macro_rules | `(tactic| walk_at "hpPo") => `(tactic| with_reducible first
  | assumption
  | (refine' Pr.same (same_new (by assumption)) ?hq; (case hq => walk_at "hpPo"))
  | (refine' Pr.same (by assumption) ?hq; (case hq => walk_at "hpPo"))
  | fail)
local macro_rules | `(tactic| walk_at "hpP") => `(tactic| with_reducible first
  | walk_at "hpPo"
  | (refine' Pr.of ?hq; (case hq => walk_at "hpH"))
  | fail)
local macro_rules | `(tactic| walk_at "hpDo") => `(tactic| with_reducible first
  | assumption
  | exact Dq.int _ | exact Dq.bl _ | exact Dq.str _ | exact Dq.non
  | (refine' Dq.same (same_new (by assumption)) ?hq; (case hq => walk_at "hpDo"))
  | (refine' Dq.same (by assumption) ?hq; (case hq => walk_at "hpDo"))
  | fail)
local macro_rules | `(tactic| walk_at "hpD") => `(tactic| with_reducible first
  | walk_at "hpDo"
  | fail)

section
variable {P : Program} {w : World} {K : Fg} {mg : Str → Option Value} {base : Heap} {f f1 f2 f3 : Addr} {fd : FuncData} {TT : List (Addr × Str)}
theorem ok_law (F : Fun K "law" "law" s_law f fd) (T : Blt mg) (D_l_bag : Df P w K mg base 1 "_law_bag" f1 ["_law_script"] (spBag K)) (D_l_once : Df P w K mg base 10 "_law_once" f2 ["_law_bag_here"] (spOnce TT)) (D_l_prism : Df P w K mg base 8 "_law_prism" f3 ["_law_bag_here"] spPrism) : FnOk P w K mg base CX0 11 f fd ["_law_script"] (spLaw K TT) := by
  obtain ⟨_, G_l_bag, B_l_bag⟩ := D_l_bag.ok
  obtain ⟨_, G_l_once, B_l_once⟩ := D_l_once.ok
  obtain ⟨_, G_l_prism, B_l_prism⟩ := D_l_prism.ok
  refine F.ok sc_law (fun vs H Q E h => ?_) (fun cdv A outer s H vs Q E hr h => ?_)
  · obtain ⟨a, ns, rfl, _⟩ := h
    rfl
  · obtain ⟨a, ns, rfl, hl, t0, k⟩ := h
    refine ⟨_, (pss_cons (ps_set (i := 1) sc_law.nd rfl (.inl rfl) (pe_call G_l_bag (hr.mono (by decide)) (by rfl) D_l_bag.g D_l_bag.kp B_l_bag .nil pass0 (pa_cons (pv 0) pa_nil)))
      (pss_cons (ps_for PassesOwn.never rfl (pi_range1 (by rfl) T.n_range (pa_cons pe_int pa_nil)) (pg_name (i := 2) sc_law.nd rfl (.inl rfl))
      (pss_one (ps_if (PW.pt (pw_or (pt_not (pt_val (pe_call G_l_once (hr.mono (by decide)) (by rfl) D_l_once.g D_l_once.kp B_l_once .nil pass0 (pa_cons (pv 1) pa_nil)))) (pw_or1 (pt_not (pt_val (pe_call G_l_prism (hr.mono (by decide)) (by rfl) D_l_prism.g D_l_prism.kp B_l_prism .nil pass0 (pa_cons (pv 1) pa_nil)))))))
      (pss_one (ps_ret pe_bl)) pss_nil)))
      (pss_one (ps_ret pe_bl)))), ?_⟩
    walk_at "go"
    refine ⟨a, ns, rfl, hl, fun b c H1 s1 _ _ B1 => ?_⟩
    have t1 := t0.ext s1
    walk_at "go"
    any_goals omega
    refine for_range (lo := 0) (n := 2) (fun i σ' H' => ∃ v2, σ' = [some (.ref a), some (.ref b), v2] ∧ LamX.Tabs TT H' ∧ Bag (1000000000000000000 - 400 * i) H' b c) ⟨none, rfl, t1, B1⟩ (fun i σ' H' hi h => ?_) (fun σ' H' h => ?_)
    · obtain ⟨v2, rfl, t2, B2⟩ := h
      walk_at "go"
      refine ⟨_, b, c, rfl, B2, t2, by omega, fun H3 t3 B3 => ?_⟩
      walk_at "go"
      refine ⟨_, b, c, rfl, B3, by omega, fun H4 s4 B4 => ?_⟩
      walk_at "go"
      exact ⟨_, rfl, tabs_mt t3 (Mt.bag B3 s4), B4.le (by omega)⟩
    · obtain ⟨v2, rfl, t2, B2⟩ := h
      walk_at "go"
      exact k _
end
end Ko

namespace Ko
open PySem L2 PySem.Spec PyProof.Rows Xm
theorem fun_of {K : PySem.W.Frag} {x qual : Str} {st : Stmt} {f : Addr} {fd : FuncData} (F : FunD K x qual (defArgs st) (defBody st) (defScope st) [] [] f fd) : Fun K x qual st f fd := by
  obtain ⟨oc, od, dV, kV, doc, pm, an, cdv, ct, osl, rfl, lk, hcd, hD, hK⟩ := F.ex
  rcases hD with ⟨_, rfl⟩ | ⟨z, _⟩
  · exact ⟨⟨oc, od, kV, doc, pm, an, cdv, ct, osl, rfl, lk, hcd⟩, F.kp⟩
  · exact absurd rfl z
theorem netB_ok {K : PySem.W.Frag} {h : Heap} {mg : Str → Option Value} {R : Addr} (X : K.In h) (G : h.Ns mainGlobals mg) (RT : RTxt K mg R) (c : netB K = true) : NetC K mg (He.ga K "Net") (He.fAd K ("Net", some "__init__")) := by
  obtain ⟨c1, c⟩ := He.ba c
  obtain ⟨c2, c⟩ := He.ba c
  obtain ⟨c3, c⟩ := He.ba c
  obtain ⟨c4, c5⟩ := He.ba c
  obtain ⟨a1, a⟩ := He.ba c2
  obtain ⟨a2, a⟩ := He.ba a
  obtain ⟨a3, a4⟩ := He.ba a
  obtain ⟨m1, m⟩ := He.ba c3
  obtain ⟨m2, m⟩ := He.ba m
  obtain ⟨m3, m4⟩ := He.ba m
  exact ⟨He.glo_ok X G c1, ⟨a1, a2, a3, He.eqO_ok a4⟩, ⟨m1, He.eqO_ok m2, m3, m4⟩, He.eqO_ok c4, He.eqO_ok c5⟩
theorem SaysR.empty_at {h : Heap} {K : PySem.W.Frag} (c : SaysR h K) {p : Addr × Addr} (hp : p ∈ [He.cT K ("_law_once", none)]) : h.get? p.2 = some { cls := .none, data := .fields #[] } := by
  obtain ⟨x, hx, rfl⟩ : ∃ x ∈ tfs, p = He.cT K x := by simpa [tfs] using hp
  exact c.empty _ hx
theorem SaysR.out_at {h : Heap} {K : PySem.W.Frag} (c : SaysR h K) {p : Addr × Addr} (hp : p ∈ [He.cT K ("_law_once", none)]) : K.lookup p.2 = none := by
  obtain ⟨x, hx, rfl⟩ : ∃ x ∈ tfs, p = He.cT K x := by simpa [tfs] using hp
  exact c.out _ hx
theorem SaysR.hd_at {h : Heap} {K : PySem.W.Frag} (c : SaysR h K) (X : K.In h) {p : Addr × Addr} (hp : p ∈ [He.cT K ("_law_once", none)]) : PySem.W.CodeHd h p.1 p.2 := by
  obtain ⟨x, hx, rfl⟩ : ∃ x ∈ tfs, p = He.cT K x := by simpa [tfs] using hp
  exact PySem.W.codeHd_of_K X (c.hd _ hx)
theorem facts {P : Program} {w : World} {K : PySem.W.Frag} {h : Heap} {mg : Str → Option Value} {fa : Addr} (X : K.In h) (G : h.Ns mainGlobals mg) (hfa : mg ("law" : Str) = some (.ref fa)) (x : exB K = true) (c : He.SaysD [] fnA K) :
    ∃ fd : FuncData, (∀ (s : Shared) (v : Value), BindsTo s fd ⟨[v], []⟩ [("_law_script", v)]) ∧ ∀ base : Heap, K.In base → base.Ns mainGlobals mg → (∀ p ∈ [He.cT K ("_law_once", none)], LamX.TabB base mg p.1 p.2) →
      FnOk P w K mg base CX0 11 fa fd ["_law_script"] (spLaw K [((He.cT K ("_law_once", none)).2, ((("_law_once" : Str) ++ (".<locals>." : Str)) ++ ("<lambda>" : Str)))]) := by
  obtain ⟨x1, x⟩ := He.ba x
  obtain ⟨x2, x⟩ := He.ba x
  obtain ⟨x3, x⟩ := He.ba x
  obtain ⟨x4, x⟩ := He.ba x
  obtain ⟨x5, x⟩ := He.ba x
  obtain ⟨x6, x⟩ := He.ba x
  obtain ⟨x7, x⟩ := He.ba x
  obtain ⟨x8, x9⟩ := He.ba x
  have RT := refB_ok X G x1
  have ZN := netB_ok X G RT x9
  have glo : ∀ n ∈ defNames, mg n = some (.ref (He.ga K n)) := fun n hn => PySem.W.mg_of X G (He.eqO_ok (List.all_eq_true.mp x5 n hn))
  have B : Blt mg := fun n hn => PySem.W.mg_none_of X G (He.eqO_ok (List.all_eq_true.mp x4 n hn))
  have hg : mg "gcd" = some (.builtin "math.gcd") := PySem.W.mg_of X G (He.eqO_ok x8)
  obtain ⟨E_BadNet, i1_BadNet, i2_BadNet⟩ := clsB_ok X G x2
  have ne_BadNet := of_decide_eq_true x6
  obtain ⟨E_BadLoft, i1_BadLoft, i2_BadLoft⟩ := clsB_ok X G x3
  have ne_BadLoft := of_decide_eq_true x7
  obtain ⟨fd_BadNet, FD_BadNet⟩ := c.def_ 0 (d := mkM "BadNet" "__init__" "BadNet.__init__" s_BadNet) rfl
  have F_BadNet : Fun K "__init__" "BadNet.__init__" s_BadNet (He.fAd K ("BadNet", some "__init__")) fd_BadNet := fun_of FD_BadNet
  obtain ⟨fd_BadLoft, FD_BadLoft⟩ := c.def_ 1 (d := mkM "BadLoft" "__init__" "BadLoft.__init__" s_BadLoft) rfl
  have F_BadLoft : Fun K "__init__" "BadLoft.__init__" s_BadLoft (He.fAd K ("BadLoft", some "__init__")) fd_BadLoft := fun_of FD_BadLoft
  obtain ⟨fd_Net_init, FD_Net_init⟩ := c.def_ 2 (d := mkM "Net" "__init__" "Net.__init__" s_Net_init) rfl
  have F_Net_init : Fun K "__init__" "Net.__init__" s_Net_init (He.fAd K ("Net", some "__init__")) fd_Net_init := fun_of FD_Net_init
  have b_Net_init : Binds K fd_Net_init ["self", "corners", "faces"] [] := F_Net_init.binds (ps := ["self", "corners", "faces"]) fun _ _ _ _ _ _ us hl => match us, hl with | [_, _, _], _ => rfl
  obtain ⟨fd_folded, FD_folded⟩ := c.def_ 3 (d := mkD "folded" s_folded) rfl
  have F_folded : Fun K "folded" "folded" s_folded (He.ga K "folded") fd_folded := fun_of FD_folded
  have b_folded : Binds K fd_folded ["values", "both"] [] := F_folded.binds (ps := ["values", "both"]) fun _ _ _ _ _ _ us hl => match us, hl with | [_, _], _ => rfl
  obtain ⟨fd_is_whole, FD_is_whole⟩ := c.def_ 4 (d := mkD "is_whole" s_is_whole) rfl
  have F_is_whole : Fun K "is_whole" "is_whole" s_is_whole (He.ga K "is_whole") fd_is_whole := fun_of FD_is_whole
  have b_is_whole : Binds K fd_is_whole ["value"] [] := F_is_whole.binds (ps := ["value"]) fun _ _ _ _ _ _ us hl => match us, hl with | [_], _ => rfl
  obtain ⟨fd_is_fraction, FD_is_fraction⟩ := c.def_ 5 (d := mkD "is_fraction" s_is_fraction) rfl
  have F_is_fraction : Fun K "is_fraction" "is_fraction" s_is_fraction (He.ga K "is_fraction") fd_is_fraction := fun_of FD_is_fraction
  have b_is_fraction : Binds K fd_is_fraction ["value"] [] := F_is_fraction.binds (ps := ["value"]) fun _ _ _ _ _ _ us hl => match us, hl with | [_], _ => rfl
  obtain ⟨fd_is_number, FD_is_number⟩ := c.def_ 6 (d := mkD "is_number" s_is_number) rfl
  have F_is_number : Fun K "is_number" "is_number" s_is_number (He.ga K "is_number") fd_is_number := fun_of FD_is_number
  have b_is_number : Binds K fd_is_number ["value"] [] := F_is_number.binds (ps := ["value"]) fun _ _ _ _ _ _ us hl => match us, hl with | [_], _ => rfl
  obtain ⟨fd_reduced, FD_reduced⟩ := c.def_ 7 (d := mkD "reduced" s_reduced) rfl
  have F_reduced : Fun K "reduced" "reduced" s_reduced (He.ga K "reduced") fd_reduced := fun_of FD_reduced
  have b_reduced : Binds K fd_reduced ["n", "d"] [] := F_reduced.binds (ps := ["n", "d"]) fun _ _ _ _ _ _ us hl => match us, hl with | [_, _], _ => rfl
  obtain ⟨fd_pair, FD_pair⟩ := c.def_ 8 (d := mkD "pair" s_pair) rfl
  have F_pair : Fun K "pair" "pair" s_pair (He.ga K "pair") fd_pair := fun_of FD_pair
  have b_pair : Binds K fd_pair ["a"] [] := F_pair.binds (ps := ["a"]) fun _ _ _ _ _ _ us hl => match us, hl with | [_], _ => rfl
  obtain ⟨fd_plus, FD_plus⟩ := c.def_ 9 (d := mkD "plus" s_plus) rfl
  have F_plus : Fun K "plus" "plus" s_plus (He.ga K "plus") fd_plus := fun_of FD_plus
  have b_plus : Binds K fd_plus ["a", "b"] [] := F_plus.binds (ps := ["a", "b"]) fun _ _ _ _ _ _ us hl => match us, hl with | [_, _], _ => rfl
  obtain ⟨fd_minus, FD_minus⟩ := c.def_ 10 (d := mkD "minus" s_minus) rfl
  have F_minus : Fun K "minus" "minus" s_minus (He.ga K "minus") fd_minus := fun_of FD_minus
  have b_minus : Binds K fd_minus ["a", "b"] [] := F_minus.binds (ps := ["a", "b"]) fun _ _ _ _ _ _ us hl => match us, hl with | [_, _], _ => rfl
  obtain ⟨fd_times, FD_times⟩ := c.def_ 11 (d := mkD "times" s_times) rfl
  have F_times : Fun K "times" "times" s_times (He.ga K "times") fd_times := fun_of FD_times
  have b_times : Binds K fd_times ["a", "b"] [] := F_times.binds (ps := ["a", "b"]) fun _ _ _ _ _ _ us hl => match us, hl with | [_, _], _ => rfl
  obtain ⟨fd_below, FD_below⟩ := c.def_ 12 (d := mkD "below" s_below) rfl
  have F_below : Fun K "below" "below" s_below (He.ga K "below") fd_below := fun_of FD_below
  have b_below : Binds K fd_below ["a", "b"] [] := F_below.binds (ps := ["a", "b"]) fun _ _ _ _ _ _ us hl => match us, hl with | [_, _], _ => rfl
  obtain ⟨fd_compare, FD_compare⟩ := c.def_ 13 (d := mkD "compare" s_compare) rfl
  have F_compare : Fun K "compare" "compare" s_compare (He.ga K "compare") fd_compare := fun_of FD_compare
  have b_compare : Binds K fd_compare ["a", "b"] [] := F_compare.binds (ps := ["a", "b"]) fun _ _ _ _ _ _ us hl => match us, hl with | [_, _], _ => rfl
  obtain ⟨fd_is_corner, FD_is_corner⟩ := c.def_ 14 (d := mkD "is_corner" s_is_corner) rfl
  have F_is_corner : Fun K "is_corner" "is_corner" s_is_corner (He.ga K "is_corner") fd_is_corner := fun_of FD_is_corner
  have b_is_corner : Binds K fd_is_corner ["value"] [] := F_is_corner.binds (ps := ["value"]) fun _ _ _ _ _ _ us hl => match us, hl with | [_], _ => rfl
  obtain ⟨fd_is_face, FD_is_face⟩ := c.def_ 15 (d := mkD "is_face" s_is_face) rfl
  have F_is_face : Fun K "is_face" "is_face" s_is_face (He.ga K "is_face") fd_is_face := fun_of FD_is_face
  have b_is_face : Binds K fd_is_face ["value", "many"] [] := F_is_face.binds (ps := ["value", "many"]) fun _ _ _ _ _ _ us hl => match us, hl with | [_, _], _ => rfl
  obtain ⟨fd_face_steps, FD_face_steps⟩ := c.def_ 16 (d := mkD "face_steps" s_face_steps) rfl
  have F_face_steps : Fun K "face_steps" "face_steps" s_face_steps (He.ga K "face_steps") fd_face_steps := fun_of FD_face_steps
  have b_face_steps : Binds K fd_face_steps ["face"] [] := F_face_steps.binds (ps := ["face"]) fun _ _ _ _ _ _ us hl => match us, hl with | [_], _ => rfl
  obtain ⟨fd_edge_of, FD_edge_of⟩ := c.def_ 17 (d := mkD "edge_of" s_edge_of) rfl
  have F_edge_of : Fun K "edge_of" "edge_of" s_edge_of (He.ga K "edge_of") fd_edge_of := fun_of FD_edge_of
  have b_edge_of : Binds K fd_edge_of ["step"] [] := F_edge_of.binds (ps := ["step"]) fun _ _ _ _ _ _ us hl => match us, hl with | [_], _ => rfl
  obtain ⟨fd_surpluses, FD_surpluses⟩ := c.def_ 18 (d := mkD "surpluses" s_surpluses) rfl
  have F_surpluses : Fun K "surpluses" "surpluses" s_surpluses (He.ga K "surpluses") fd_surpluses := fun_of FD_surpluses
  have b_surpluses : Binds K fd_surpluses ["faces"] [] := F_surpluses.binds (ps := ["faces"]) fun _ _ _ _ _ _ us hl => match us, hl with | [_], _ => rfl
  obtain ⟨fd_open_edges, FD_open_edges⟩ := c.def_ 19 (d := mkD "open_edges" s_open_edges) rfl
  have F_open_edges : Fun K "open_edges" "open_edges" s_open_edges (He.ga K "open_edges") fd_open_edges := fun_of FD_open_edges
  have b_open_edges : Binds K fd_open_edges ["net"] [] := F_open_edges.binds (ps := ["net"]) fun _ _ _ _ _ _ us hl => match us, hl with | [_], _ => rfl
  obtain ⟨fd_is_closed, FD_is_closed⟩ := c.def_ 20 (d := mkD "is_closed" s_is_closed) rfl
  have F_is_closed : Fun K "is_closed" "is_closed" s_is_closed (He.ga K "is_closed") fd_is_closed := fun_of FD_is_closed
  have b_is_closed : Binds K fd_is_closed ["net"] [] := F_is_closed.binds (ps := ["net"]) fun _ _ _ _ _ _ us hl => match us, hl with | [_], _ => rfl
  obtain ⟨fd_determinant, FD_determinant⟩ := c.def_ 21 (d := mkD "determinant" s_determinant) rfl
  have F_determinant : Fun K "determinant" "determinant" s_determinant (He.ga K "determinant") fd_determinant := fun_of FD_determinant
  have b_determinant : Binds K fd_determinant ["p", "q", "r"] [] := F_determinant.binds (ps := ["p", "q", "r"]) fun _ _ _ _ _ _ us hl => match us, hl with | [_, _, _], _ => rfl
  obtain ⟨fd_volume, FD_volume⟩ := c.def_ 22 (d := mkD "volume" s_volume) rfl
  have F_volume : Fun K "volume" "volume" s_volume (He.ga K "volume") fd_volume := fun_of FD_volume
  have b_volume : Binds K fd_volume ["net"] [] := F_volume.binds (ps := ["net"]) fun _ _ _ _ _ _ us hl => match us, hl with | [_], _ => rfl
  obtain ⟨fd_loft, FD_loft⟩ := c.def_ 23 (d := mkD "loft" s_loft) rfl
  have F_loft : Fun K "loft" "loft" s_loft (He.ga K "loft") fd_loft := fun_of FD_loft
  have b_loft : Binds K fd_loft ["lower", "z0", "upper", "z1"] [] := F_loft.binds (ps := ["lower", "z0", "upper", "z1"]) fun _ _ _ _ _ _ us hl => match us, hl with | [_, _, _, _], _ => rfl
  obtain ⟨fd_l_bag, FD_l_bag⟩ := c.def_ 24 (d := mkD "_law_bag" s_l_bag) rfl
  have F_l_bag : Fun K "_law_bag" "_law_bag" s_l_bag (He.ga K "_law_bag") fd_l_bag := fun_of FD_l_bag
  have b_l_bag : Binds K fd_l_bag ["_law_script"] [] := F_l_bag.binds (ps := ["_law_script"]) fun _ _ _ _ _ _ us hl => match us, hl with | [_], _ => rfl
  obtain ⟨fd_l_draw, FD_l_draw⟩ := c.def_ 25 (d := mkD "_law_draw" s_l_draw) rfl
  have F_l_draw : Fun K "_law_draw" "_law_draw" s_l_draw (He.ga K "_law_draw") fd_l_draw := fun_of FD_l_draw
  have b_l_draw : Binds K fd_l_draw ["_law_bag_here", "_law_many_y"] [] := F_l_draw.binds (ps := ["_law_bag_here", "_law_many_y"]) fun _ _ _ _ _ _ us hl => match us, hl with | [_, _], _ => rfl
  obtain ⟨fd_l_of, FD_l_of⟩ := c.def_ 26 (d := mkD "_law_of" s_l_of) rfl
  have F_l_of : Fun K "_law_of" "_law_of" s_l_of (He.ga K "_law_of") fd_l_of := fun_of FD_l_of
  have b_l_of : Binds K fd_l_of ["_law_bag_here", "_law_things"] [] := F_l_of.binds (ps := ["_law_bag_here", "_law_things"]) fun _ _ _ _ _ _ us hl => match us, hl with | [_, _], _ => rfl
  obtain ⟨fd_l_same, FD_l_same⟩ := c.def_ 27 (d := mkD "_law_same" s_l_same) rfl
  have F_l_same : Fun K "_law_same" "_law_same" s_l_same (He.ga K "_law_same") fd_l_same := fun_of FD_l_same
  have b_l_same : Binds K fd_l_same ["_law_found", "_law_due"] [] := F_l_same.binds (ps := ["_law_found", "_law_due"]) fun _ _ _ _ _ _ us hl => match us, hl with | [_, _], _ => rfl
  obtain ⟨fd_l_low, FD_l_low⟩ := c.def_ 28 (d := mkD "_law_low" s_l_low) rfl
  have F_l_low : Fun K "_law_low" "_law_low" s_l_low (He.ga K "_law_low") fd_l_low := fun_of FD_l_low
  have b_l_low : Binds K fd_l_low ["_law_num", "_law_den"] [] := F_l_low.binds (ps := ["_law_num", "_law_den"]) fun _ _ _ _ _ _ us hl => match us, hl with | [_, _], _ => rfl
  obtain ⟨fd_l_add, FD_l_add⟩ := c.def_ 29 (d := mkD "_law_add" s_l_add) rfl
  have F_l_add : Fun K "_law_add" "_law_add" s_l_add (He.ga K "_law_add") fd_l_add := fun_of FD_l_add
  have b_l_add : Binds K fd_l_add ["_law_p", "_law_q"] [] := F_l_add.binds (ps := ["_law_p", "_law_q"]) fun _ _ _ _ _ _ us hl => match us, hl with | [_, _], _ => rfl
  obtain ⟨fd_l_sub, FD_l_sub⟩ := c.def_ 30 (d := mkD "_law_sub" s_l_sub) rfl
  have F_l_sub : Fun K "_law_sub" "_law_sub" s_l_sub (He.ga K "_law_sub") fd_l_sub := fun_of FD_l_sub
  have b_l_sub : Binds K fd_l_sub ["_law_p", "_law_q"] [] := F_l_sub.binds (ps := ["_law_p", "_law_q"]) fun _ _ _ _ _ _ us hl => match us, hl with | [_, _], _ => rfl
  obtain ⟨fd_l_mul, FD_l_mul⟩ := c.def_ 31 (d := mkD "_law_mul" s_l_mul) rfl
  have F_l_mul : Fun K "_law_mul" "_law_mul" s_l_mul (He.ga K "_law_mul") fd_l_mul := fun_of FD_l_mul
  have b_l_mul : Binds K fd_l_mul ["_law_p", "_law_q"] [] := F_l_mul.binds (ps := ["_law_p", "_law_q"]) fun _ _ _ _ _ _ us hl => match us, hl with | [_, _], _ => rfl
  obtain ⟨fd_l_lt, FD_l_lt⟩ := c.def_ 32 (d := mkD "_law_lt" s_l_lt) rfl
  have F_l_lt : Fun K "_law_lt" "_law_lt" s_l_lt (He.ga K "_law_lt") fd_l_lt := fun_of FD_l_lt
  have b_l_lt : Binds K fd_l_lt ["_law_p", "_law_q"] [] := F_l_lt.binds (ps := ["_law_p", "_law_q"]) fun _ _ _ _ _ _ us hl => match us, hl with | [_, _], _ => rfl
  obtain ⟨fd_l_hand, FD_l_hand⟩ := c.def_ 33 (d := mkD "_law_hand" s_l_hand) rfl
  have F_l_hand : Fun K "_law_hand" "_law_hand" s_l_hand (He.ga K "_law_hand") fd_l_hand := fun_of FD_l_hand
  have b_l_hand : Binds K fd_l_hand ["_law_bag_here", "_law_p"] [] := F_l_hand.binds (ps := ["_law_bag_here", "_law_p"]) fun _ _ _ _ _ _ us hl => match us, hl with | [_, _], _ => rfl
  obtain ⟨fd_l_handed, FD_l_handed⟩ := c.def_ 34 (d := mkD "_law_handed" s_l_handed) rfl
  have F_l_handed : Fun K "_law_handed" "_law_handed" s_l_handed (He.ga K "_law_handed") fd_l_handed := fun_of FD_l_handed
  have b_l_handed : Binds K fd_l_handed ["_law_bag_here", "_law_spots_here"] [] := F_l_handed.binds (ps := ["_law_bag_here", "_law_spots_here"]) fun _ _ _ _ _ _ us hl => match us, hl with | [_, _], _ => rfl
  obtain ⟨fd_l_number, FD_l_number⟩ := c.def_ 35 (d := mkD "_law_number" s_l_number) rfl
  have F_l_number : Fun K "_law_number" "_law_number" s_l_number (He.ga K "_law_number") fd_l_number := fun_of FD_l_number
  have b_l_number : Binds K fd_l_number ["_law_bag_here"] [] := F_l_number.binds (ps := ["_law_bag_here"]) fun _ _ _ _ _ _ us hl => match us, hl with | [_], _ => rfl
  obtain ⟨fd_l_ring, FD_l_ring⟩ := c.def_ 36 (d := mkD "_law_ring" s_l_ring) rfl
  have F_l_ring : Fun K "_law_ring" "_law_ring" s_l_ring (He.ga K "_law_ring") fd_l_ring := fun_of FD_l_ring
  have b_l_ring : Binds K fd_l_ring ["_law_bag_here"] [] := F_l_ring.binds (ps := ["_law_bag_here"]) fun _ _ _ _ _ _ us hl => match us, hl with | [_], _ => rfl
  obtain ⟨fd_l_loft, FD_l_loft⟩ := c.def_ 37 (d := mkD "_law_loft" s_l_loft) rfl
  have F_l_loft : Fun K "_law_loft" "_law_loft" s_l_loft (He.ga K "_law_loft") fd_l_loft := fun_of FD_l_loft
  have b_l_loft : Binds K fd_l_loft ["_law_base", "_law_low_here", "_law_cap", "_law_high"] [] := F_l_loft.binds (ps := ["_law_base", "_law_low_here", "_law_cap", "_law_high"]) fun _ _ _ _ _ _ us hl => match us, hl with | [_, _, _, _], _ => rfl
  obtain ⟨fd_l_area, FD_l_area⟩ := c.def_ 38 (d := mkD "_law_area" s_l_area) rfl
  have F_l_area : Fun K "_law_area" "_law_area" s_l_area (He.ga K "_law_area") fd_l_area := fun_of FD_l_area
  have b_l_area : Binds K fd_l_area ["_law_ring_here"] [] := F_l_area.binds (ps := ["_law_ring_here"]) fun _ _ _ _ _ _ us hl => match us, hl with | [_], _ => rfl
  obtain ⟨fd_l_det, FD_l_det⟩ := c.def_ 39 (d := mkD "_law_det" s_l_det) rfl
  have F_l_det : Fun K "_law_det" "_law_det" s_l_det (He.ga K "_law_det") fd_l_det := fun_of FD_l_det
  have b_l_det : Binds K fd_l_det ["_law_a", "_law_b", "_law_third"] [] := F_l_det.binds (ps := ["_law_a", "_law_b", "_law_third"]) fun _ _ _ _ _ _ us hl => match us, hl with | [_, _, _], _ => rfl
  obtain ⟨fd_l_volume, FD_l_volume⟩ := c.def_ 40 (d := mkD "_law_volume" s_l_volume) rfl
  have F_l_volume : Fun K "_law_volume" "_law_volume" s_l_volume (He.ga K "_law_volume") fd_l_volume := fun_of FD_l_volume
  have b_l_volume : Binds K fd_l_volume ["_law_pair"] [] := F_l_volume.binds (ps := ["_law_pair"]) fun _ _ _ _ _ _ us hl => match us, hl with | [_], _ => rfl
  obtain ⟨fd_l_try, FD_l_try⟩ := c.def_ 41 (d := mkD "_law_try" s_l_try) rfl
  have F_l_try : Fun K "_law_try" "_law_try" s_l_try (He.ga K "_law_try") fd_l_try := fun_of FD_l_try
  have b_l_try : Binds K fd_l_try ["_law_ask"] [] := F_l_try.binds (ps := ["_law_ask"]) fun _ _ _ _ _ _ us hl => match us, hl with | [_], _ => rfl
  obtain ⟨fd_l_spots, FD_l_spots⟩ := c.def_ 42 (d := mkD "_law_spots" s_l_spots) rfl
  have F_l_spots : Fun K "_law_spots" "_law_spots" s_l_spots (He.ga K "_law_spots") fd_l_spots := fun_of FD_l_spots
  have b_l_spots : Binds K fd_l_spots ["_law_bag_here", "_law_m"] [] := F_l_spots.binds (ps := ["_law_bag_here", "_law_m"]) fun _ _ _ _ _ _ us hl => match us, hl with | [_, _], _ => rfl
  obtain ⟨fd_l_heights, FD_l_heights⟩ := c.def_ 43 (d := mkD "_law_heights" s_l_heights) rfl
  have F_l_heights : Fun K "_law_heights" "_law_heights" s_l_heights (He.ga K "_law_heights") fd_l_heights := fun_of FD_l_heights
  have b_l_heights : Binds K fd_l_heights ["_law_bag_here"] [] := F_l_heights.binds (ps := ["_law_bag_here"]) fun _ _ _ _ _ _ us hl => match us, hl with | [_], _ => rfl
  obtain ⟨fd_l_right, FD_l_right⟩ := c.def_ 44 (d := mkD "_law_right" s_l_right) rfl
  have F_l_right : Fun K "_law_right" "_law_right" s_l_right (He.ga K "_law_right") fd_l_right := fun_of FD_l_right
  have b_l_right : Binds K fd_l_right ["_law_made", "_law_pair"] [] := F_l_right.binds (ps := ["_law_made", "_law_pair"]) fun _ _ _ _ _ _ us hl => match us, hl with | [_, _], _ => rfl
  obtain ⟨fd_l_any, FD_l_any⟩ := c.def_ 45 (d := mkD "_law_any" s_l_any) rfl
  have F_l_any : Fun K "_law_any" "_law_any" s_l_any (He.ga K "_law_any") fd_l_any := fun_of FD_l_any
  have b_l_any : Binds K fd_l_any ["_law_bag_here"] [] := F_l_any.binds (ps := ["_law_bag_here"]) fun _ _ _ _ _ _ us hl => match us, hl with | [_], _ => rfl
  obtain ⟨fd_l_once, FD_l_once⟩ := c.def_ 46 (d := mkD "_law_once" s_l_once) rfl
  have F_l_once : Fun K "_law_once" "_law_once" s_l_once (He.ga K "_law_once") fd_l_once := fun_of FD_l_once
  have b_l_once : Binds K fd_l_once ["_law_bag_here"] [] := F_l_once.binds (ps := ["_law_bag_here"]) fun _ _ _ _ _ _ us hl => match us, hl with | [_], _ => rfl
  obtain ⟨fd_l_prism, FD_l_prism⟩ := c.def_ 47 (d := mkD "_law_prism" s_l_prism) rfl
  have F_l_prism : Fun K "_law_prism" "_law_prism" s_l_prism (He.ga K "_law_prism") fd_l_prism := fun_of FD_l_prism
  have b_l_prism : Binds K fd_l_prism ["_law_bag_here"] [] := F_l_prism.binds (ps := ["_law_bag_here"]) fun _ _ _ _ _ _ us hl => match us, hl with | [_], _ => rfl
  obtain ⟨fd_law, FD_law⟩ := c.def_ 48 (d := mkD "law" s_law) rfl
  have F_law : Fun K "law" "law" s_law (He.ga K "law") fd_law := fun_of FD_law
  have b_law : Binds K fd_law ["_law_script"] [] := F_law.binds (ps := ["_law_script"]) fun _ _ _ _ _ _ us hl => match us, hl with | [_], _ => rfl
  have kb_volume : KBinds K fd_volume ["net"] ["net"] (fun us ws => us ++ ws) (fun us ws => us ++ ws) := kbs F_volume ["net"] gApp (fun _ _ _ _ => Vals.append) fun _ _ _ _ _ _ us ws hl => by
    have hl2 : us.length + ws.length = 1 := by simpa [gApp] using hl
    rcases us with _ | ⟨u1, _ | ⟨u2, us⟩⟩ <;> rcases ws with _ | ⟨w1, _ | ⟨w2, ws⟩⟩ <;> first
      | (exfalso; simp at hl2; done)
      | (exfalso; simp at hl2; omega)
      | rfl
  have kb_loft : KBinds K fd_loft ["lower", "z0", "upper", "z1"] ["z1", "upper", "z0", "lower"] (fun us ws => gRev us ws) (fun us ws => gRev us ws) := kbs F_loft ["z1", "upper", "z0", "lower"] gRev (fun _ _ _ _ a b => a.append b.reverse) fun _ _ _ _ _ _ us ws hl => by
    have hl2 : us.length + ws.length = 4 := by simpa [gRev] using hl
    rcases us with _ | ⟨u1, _ | ⟨u2, _ | ⟨u3, _ | ⟨u4, _ | ⟨u5, us⟩⟩⟩⟩⟩ <;> rcases ws with _ | ⟨w1, _ | ⟨w2, _ | ⟨w3, _ | ⟨w4, _ | ⟨w5, ws⟩⟩⟩⟩⟩ <;> first
      | (exfalso; simp at hl2; done)
      | (exfalso; simp at hl2; omega)
      | rfl
  have hco_l_once : fd_l_once.code = .ref (He.cT K ("_law_once", none)).1 := by
    obtain ⟨oc, od, kV, doc, pm, an, cdv, ct, osl, e1, lk, hcode⟩ := F_l_once.ex
    obtain ⟨cc, rfl⟩ := He.codeIn_ref hcode
    subst e1
    exact congrArg Value.ref (He.codeOf_eq (p := ("_law_once", none)) lk rfl).symm
  have e := hfa.symm.trans (glo "law" (by decide +kernel))
  cases e
  refine ⟨fd_law, fun s v => ?_, fun base kb gb TB => ?_⟩
  · have b := FD_law.bindsA (ps := ["_law_script"]) fun _ _ _ _ _ _ us hl => match us, hl with | [_], _ => rfl
    exact b s [v] rfl
  · skip
    have Z : Bn P w K mg base (He.ga K "Refused") (He.ga K "BadNet") := ⟨RT, E_BadNet, ⟨_, fd_BadNet, ⟨E_BadNet.oex, i1_BadNet, i2_BadNet⟩, in_BadNet F_BadNet RT E_BadNet, bd_BadNet F_BadNet⟩, ne_BadNet⟩
    have ZL : Bl P w K mg base (He.ga K "Refused") (He.ga K "BadLoft") := ⟨RT, E_BadLoft, ⟨_, fd_BadLoft, ⟨E_BadLoft.oex, i1_BadLoft, i2_BadLoft⟩, in_BadLoft F_BadLoft RT E_BadLoft, bd_BadLoft F_BadLoft⟩, ne_BadLoft⟩
    have D_is_whole : Df P w K mg base 1 "is_whole" _ ["value"] spWhole := ⟨glo _ (by decide +kernel), F_is_whole.kp, _, ok_is_whole F_is_whole B, b_is_whole⟩
    have D_is_fraction : Df P w K mg base 2 "is_fraction" _ ["value"] spFrac := ⟨glo _ (by decide +kernel), F_is_fraction.kp, _, ok_is_fraction F_is_fraction B D_is_whole, b_is_fraction⟩
    have D_is_number : Df P w K mg base 3 "is_number" _ ["value"] spNum := ⟨glo _ (by decide +kernel), F_is_number.kp, _, ok_is_number F_is_number B hg D_is_whole D_is_fraction, b_is_number⟩
    have D_is_corner : Df P w K mg base 4 "is_corner" _ ["value"] spCorner := ⟨glo _ (by decide +kernel), F_is_corner.kp, _, ok_is_corner F_is_corner B D_is_number, b_is_corner⟩
    have D_is_face : Df P w K mg base 4 "is_face" _ ["value", "many"] spFace := ⟨glo _ (by decide +kernel), F_is_face.kp, _, ok_is_face F_is_face B D_is_whole, b_is_face⟩
    have D_pair : Df P w K mg base 1 "pair" _ ["a"] spPair := ⟨glo _ (by decide +kernel), F_pair.kp, _, ok_pair F_pair B, b_pair⟩
    have G_net : FnOk P w K mg base (L2.CX P w) 5 _ fd_Net_init ["self", "corners", "faces"] (spNet (He.ga K "Net") (He.ga K "BadNet")) := ok_Net_init F_Net_init B Z ZN.cl ZN.nC ZN.nF D_is_corner D_is_face D_pair
    have D_below : Df P w K mg base 1 "below" _ ["a", "b"] spBelow := ⟨glo _ (by decide +kernel), F_below.kp, _, ok_below F_below B, b_below⟩
    have D_compare : Df P w K mg base 2 "compare" _ ["a", "b"] spCompare := ⟨glo _ (by decide +kernel), F_compare.kp, _, ok_compare F_compare B D_pair D_below, b_compare⟩
    have G_loft : FnOk P w K mg base (L2.CX P w) 7 _ fd_loft ["lower", "z0", "upper", "z1"] (spLoft (He.ga K "Net") (He.ga K "BadLoft")) := ok_loft F_loft B ZL ZN G_net b_Net_init D_compare
    have D_l_draw : Df P w K mg base 1 "_law_draw" _ ["_law_bag_here", "_law_many_y"] spDraw := ⟨glo _ (by decide +kernel), F_l_draw.kp, _, ok_draw F_l_draw B, b_l_draw⟩
    have D_l_of : Df P w K mg base 2 "_law_of" _ ["_law_bag_here", "_law_things"] spOf := ⟨glo _ (by decide +kernel), F_l_of.kp, _, ok_of F_l_of B D_l_draw, b_l_of⟩
    have D_l_low : Df P w K mg base 1 "_law_low" _ ["_law_num", "_law_den"] spLow := ⟨glo _ (by decide +kernel), F_l_low.kp, _, ok_l_low F_l_low B, b_l_low⟩
    have D_l_ring : Df P w K mg base 3 "_law_ring" _ ["_law_bag_here"] spRing := ⟨glo _ (by decide +kernel), F_l_ring.kp, _, ok_l_ring F_l_ring B D_l_draw D_l_of D_l_low, b_l_ring⟩
    have D_l_add : Df P w K mg base 2 "_law_add" _ ["_law_p", "_law_q"] (spLop add) := ⟨glo _ (by decide +kernel), F_l_add.kp, _, ok_l_add F_l_add B D_l_low, b_l_add⟩
    have D_l_sub : Df P w K mg base 3 "_law_sub" _ ["_law_p", "_law_q"] (spLop sub) := ⟨glo _ (by decide +kernel), F_l_sub.kp, _, ok_l_sub F_l_sub B D_l_add, b_l_sub⟩
    have D_l_mul : Df P w K mg base 2 "_law_mul" _ ["_law_p", "_law_q"] (spLop mul) := ⟨glo _ (by decide +kernel), F_l_mul.kp, _, ok_l_mul F_l_mul B D_l_low, b_l_mul⟩
    have D_l_area : Df P w K mg base 4 "_law_area" _ ["_law_ring_here"] spArea := ⟨glo _ (by decide +kernel), F_l_area.kp, _, ok_l_area F_l_area B D_l_add D_l_sub D_l_mul, b_l_area⟩
    have D_l_hand : Df P w K mg base 2 "_law_hand" _ ["_law_bag_here", "_law_p"] spHand := ⟨glo _ (by decide +kernel), F_l_hand.kp, _, ok_l_hand F_l_hand B D_l_draw, b_l_hand⟩
    have D_l_handed : Df P w K mg base 3 "_law_handed" _ ["_law_bag_here", "_law_spots_here"] spHandedS := ⟨glo _ (by decide +kernel), F_l_handed.kp, _, ok_l_handed F_l_handed B D_l_hand, b_l_handed⟩
    have D_l0 : Df P w K mg base 1 "_law_same" _ ["_law_found", "_law_due"] (spLike 0) := ⟨glo _ (by decide +kernel), F_l_same.kp, _, ok_like0 F_l_same B, b_l_same⟩
    have D_l1 : Df P w K mg base 2 "_law_same" _ ["_law_found", "_law_due"] (spLike 1) := ⟨glo _ (by decide +kernel), F_l_same.kp, _, ok_like (n := 0) (m := 1) F_l_same B D_l0, b_l_same⟩
    have D_l2 : Df P w K mg base 3 "_law_same" _ ["_law_found", "_law_due"] (spLike 2) := ⟨glo _ (by decide +kernel), F_l_same.kp, _, ok_like (n := 1) (m := 2) F_l_same B D_l1, b_l_same⟩
    have D_l3 : Df P w K mg base 4 "_law_same" _ ["_law_found", "_law_due"] (spLike 3) := ⟨glo _ (by decide +kernel), F_l_same.kp, _, ok_like (n := 2) (m := 3) F_l_same B D_l2, b_l_same⟩
    have D_l_same : Df P w K mg base 5 "_law_same" _ ["_law_found", "_law_due"] (spLike 4) := ⟨glo _ (by decide +kernel), F_l_same.kp, _, ok_like (n := 3) (m := 4) F_l_same B D_l3, b_l_same⟩
    have D_l_loft : Df P w K mg base 1 "_law_loft" _ ["_law_base", "_law_low_here", "_law_cap", "_law_high"] spLLoft := ⟨glo _ (by decide +kernel), F_l_loft.kp, _, ok_l_loft F_l_loft B, b_l_loft⟩
    have D_reduced : Df P w K mg base 1 "reduced" _ ["n", "d"] spReduced := ⟨glo _ (by decide +kernel), F_reduced.kp, _, ok_reduced F_reduced B hg, b_reduced⟩
    have D_plus : Df P w K mg base 2 "plus" _ ["a", "b"] (spOp add) := ⟨glo _ (by decide +kernel), F_plus.kp, _, ok_plus F_plus B D_pair D_reduced, b_plus⟩
    have D_times : Df P w K mg base 2 "times" _ ["a", "b"] (spOp mul) := ⟨glo _ (by decide +kernel), F_times.kp, _, ok_times F_times B D_pair D_reduced, b_times⟩
    have D_minus : Df P w K mg base 2 "minus" _ ["a", "b"] (spOp sub) := ⟨glo _ (by decide +kernel), F_minus.kp, _, ok_minus F_minus B D_pair D_reduced, b_minus⟩
    have D_determinant : Df P w K mg base 3 "determinant" _ ["p", "q", "r"] spDet := ⟨glo _ (by decide +kernel), F_determinant.kp, _, ok_determinant F_determinant B D_plus D_minus D_times, b_determinant⟩
    have D_folded : Df P w K mg base 3 "folded" _ ["values", "both"] (spFold (He.ga K "plus")) := ⟨glo _ (by decide +kernel), F_folded.kp, _, ok_folded F_folded B D_plus, b_folded⟩
    have D_volume : Df P w K mg base 4 "volume" _ ["net"] (spVol (He.ga K "Net")) := ⟨glo _ (by decide +kernel), F_volume.kp, _, ok_volume F_volume B ZN D_plus D_times D_determinant D_folded, b_volume⟩
    have DK_volume : DfK P w K mg base 4 "volume" _ ["net"] ["net"] (fun us ws => us ++ ws) (spVol (He.ga K "Net")) := ⟨glo _ (by decide +kernel), F_volume.kp, _, ok_volume F_volume B ZN D_plus D_times D_determinant D_folded, kb_volume⟩
    have D_l_prism : Df P w K mg base 8 "_law_prism" _ ["_law_bag_here"] spPrism := ⟨glo _ (by decide +kernel), F_l_prism.kp, _, ok_l_prism F_l_prism B ZN (glo "loft" (by decide +kernel)) F_loft.kp G_loft b_loft D_l_ring D_l_draw D_l_low D_l_of D_l_add D_l_sub D_l_mul D_l_area D_l_handed D_l_same D_l_loft DK_volume, b_l_prism⟩
    have D_l_number : Df P w K mg base 2 "_law_number" _ ["_law_bag_here"] spNumber := ⟨glo _ (by decide +kernel), F_l_number.kp, _, ok_l_number F_l_number B D_l_draw D_l_low, b_l_number⟩
    have D_l_spots : Df P w K mg base 3 "_law_spots" _ ["_law_bag_here", "_law_m"] spSpots := ⟨glo _ (by decide +kernel), F_l_spots.kp, _, ok_l_spots F_l_spots B D_l_draw D_l_number, b_l_spots⟩
    have D_l_lt : Df P w K mg base 1 "_law_lt" _ ["_law_p", "_law_q"] spBelow := ⟨glo _ (by decide +kernel), F_l_lt.kp, _, ok_l_lt F_l_lt B, b_l_lt⟩
    have D_l_heights : Df P w K mg base 3 "_law_heights" _ ["_law_bag_here"] spHeights := ⟨glo _ (by decide +kernel), F_l_heights.kp, _, ok_l_heights F_l_heights B D_l_draw D_l_number D_l_lt, b_l_heights⟩
    have D_l_any : Df P w K mg base 4 "_law_any" _ ["_law_bag_here"] spAny := ⟨glo _ (by decide +kernel), F_l_any.kp, _, ok_l_any F_l_any B D_l_draw D_l_spots D_l_heights, b_l_any⟩
    have D_face_steps : Df P w K mg base 1 "face_steps" _ ["face"] spSteps := ⟨glo _ (by decide +kernel), F_face_steps.kp, _, ok_face_steps F_face_steps B, b_face_steps⟩
    have D_edge_of : Df P w K mg base 1 "edge_of" _ ["step"] spEdge := ⟨glo _ (by decide +kernel), F_edge_of.kp, _, ok_edge_of F_edge_of B, b_edge_of⟩
    have D_surpluses : Df P w K mg base 2 "surpluses" _ ["faces"] spSurp := ⟨glo _ (by decide +kernel), F_surpluses.kp, _, ok_surpluses F_surpluses B D_face_steps D_edge_of, b_surpluses⟩
    have D_open_edges : Df P w K mg base 3 "open_edges" _ ["net"] (spOpen (He.ga K "Net")) := ⟨glo _ (by decide +kernel), F_open_edges.kp, _, ok_open_edges F_open_edges B ZN D_surpluses, b_open_edges⟩
    have D_is_closed : Df P w K mg base 4 "is_closed" _ ["net"] (spClosed (He.ga K "Net")) := ⟨glo _ (by decide +kernel), F_is_closed.kp, _, ok_is_closed F_is_closed B D_open_edges, b_is_closed⟩
    have D_l_det : Df P w K mg base 4 "_law_det" _ ["_law_a", "_law_b", "_law_third"] spDet := ⟨glo _ (by decide +kernel), F_l_det.kp, _, ok_l_det F_l_det B D_l_add D_l_sub D_l_mul, b_l_det⟩
    have D_l_volume : Df P w K mg base 5 "_law_volume" _ ["_law_pair"] spLVol := ⟨glo _ (by decide +kernel), F_l_volume.kp, _, ok_l_volume F_l_volume B D_l_add D_l_mul D_l_det, b_l_volume⟩
    have D_l_right : Df P w K mg base 6 "_law_right" _ ["_law_made", "_law_pair"] (spRight (He.ga K "Net")) := ⟨glo _ (by decide +kernel), F_l_right.kp, _, ok_l_right F_l_right B ZN D_l_same D_is_closed D_open_edges D_volume D_l_volume, b_l_right⟩
    have D_l_once : Df P w K mg base 10 "_law_once" _ ["_law_bag_here"] (spOnce [((He.cT K ("_law_once", none)).2, lamQ)]) := ⟨glo _ (by decide +kernel), F_l_once.kp, _, ok_l_once F_l_once B ZL (glo "loft" (by decide +kernel)) F_loft.kp G_loft b_loft kb_loft F_l_try b_l_try (glo "_law_try" (by decide +kernel)) hco_l_once (TB _ List.mem_cons_self) D_l_any D_l_draw D_l_handed D_l_hand D_l_lt D_l_same D_l_right D_l_loft, b_l_once⟩
    have D_l_bag : Df P w K mg base 1 "_law_bag" _ ["_law_script"] (spBag K) := ⟨glo _ (by decide +kernel), F_l_bag.kp, _, ok_bag F_l_bag B, b_l_bag⟩
    exact ok_law F_law B D_l_bag D_l_once D_l_prism
end Ko
open PySem PySem.Calls PySem.W PyProof.Rows
theorem PySem.Challenge.cw_mostlaid_k24_lofts_told_holds : PySem.Challenge.rw_mostlaid_k24_lofts_told.Holds := by
  w_on; o_law
  refine HandSHeadRun.head_imp (r := Ko.Rw) (q := Ko.vw) (H := Ko.hk) (ob := Ko.ob) (M := 9000) (loose := Ko.loose) (d := Ko.dl) (kwd := []) Ko.ob_eq
    Ko.run Ko.hd1 Ko.hd2 Ko.hd3 (by rfl) (by first | assumption | decide +kernel) (by decide +kernel) ⟨rfl, rfl, rfl, rfl, rfl, by decide +kernel⟩ ?hw ?hc
  case hw => w_witness2
  case hc =>
    refine LamX.walk_ofTsE (l := PySem.Challenge.rw_mostlaid_k24_lofts_told) (n := 63) (k := 11) (x := "_law_script") (CX := fun _ => L2.CX0) rfl (by decide) (by kernel_rfl) ⟨rfl, by decide, by decide⟩ ?F (fun _ _ _ _ _ z => z)
    intro w mg fa h Y G hmg0
    obtain ⟨K, KX, c⟩ := Y
    have hmg : mg ("law" : PySem.Str) = some (.ref fa) := by
      rw [← Ko.hd4]
      exact hmg0
    obtain ⟨fd, hb, hF⟩ := Ko.facts (P := PySem.Challenge.rw_mostlaid_k24_lofts_told.prog) (w := w) KX G hmg c.ex c.d
    refine ⟨K, KX, fd, [He.cT K ("_law_once", none)], _, fun p hp => c.empty_at hp, fun p hp => c.out_at hp, fun p hp => c.hd_at KX hp, hb, fun H a ns hl _ hT hS => ⟨a, ns, rfl, hS, fun p hp => ?_, fun _ => rfl⟩, hF⟩
    obtain rfl := List.mem_singleton.mp hp
    exact LamX.TabS.nil (hT _ List.mem_cons_self)

