import PyProof.Rows.All
import Wide.All
import OpenK.AllK
import Wide.FinOn
import HandS.ForMost
import HandS.ForExc
import HandS.ExcInit
import HandS.ExcField
import HandS.ExcIs
import HandS.ExcValue
import HandS.HotCalls
import HandS.MakeKwOnly
import HandS.IsInst
import HandS.Conv
import HandS.Wide
import HandS.Codes
import KE.KExcIs
import HandS.Strs
import HandS.SetTxt0
import HandS.SetFor
import PyProof.StrWalks
import PyProof.WalksMore
import PyProof.SetRoads
import PyProof.Rows.SortShellAny
import HandS.AnyAll
import HandS.Comp
import HandS.Walk
import HandS.Zip
import HandS.Star
import HandS.Flow
import HandS.DictComp
import HandS.Text
import HandS.List
import PyProof.CollectIter
import PyProof.MakeMany
import HandS.Dict
import HandS.CallLocal
import KE.KCallOwn
import HandS.FStr
import HandS.ClsMeth
import HandS.Words
import HandS.Style
import PySem.Challenge.RW_nevermiss_k06_wrong_texts_of_machines
set_option Elab.async false
set_option linter.all false
set_option maxRecDepth 100000
set_option maxHeartbeats 4000000
/-! An own exception class called with keywords: its own __init__ sees them. -/
namespace Own
open PySem PySem.Calls PySem.HandSPX
section
variable {prog : Program} {wo : World} {Ar : Around} {hp : Heap} {gs : Array GenState} {dr : Drawn} {tk : Nat} {os : OsState} {kw : List (Str × Value)}
variable {nm qn : Str} {Cl Ns : Addr} {bases tail full : List Value} {slots : List Str} {subs : List Value} {abst : Bool} {coll : Option Bool} {dict : Option Addr} {s0 s1 s2 s3 s5 : Option Value} {hd : Bool} {Base new ini : String}
local macro_rules | `(tactic| walk_at "stp") => `(tactic| first | with_reducible refine wpAny_loadPart_at (by assumption) ?_ | with_reducible refine wpAny_madeBy_exc (by assumption) ?_ | wp_step)
/-- what stands of the class at Cl -/
abbrev Has (hp : Heap) (nm qn : Str) (Cl Ns : Addr) (bases tail : List Value) (hd : Bool) (slots : List Str) (subs : List Value) (abst : Bool) (coll : Option Bool) (dict : Option Addr) (s0 s1 s2 s3 s5 : Option Value) (new : String) : Prop :=
  hp.get? Cl = some (excClassObj nm qn Cl Ns bases tail hd slots subs abst coll dict s0 s1 s2 s3 s5 new)
theorem inTail (F : ExcBaseFacts Base new ini full) (same : ∀ T : String, tail.contains (.type T) = full.contains (.type T)) : (Value.ref Cl :: tail).contains (.type Base) = true := by
  rw [List.contains_cons, same, F.hasB]
  exact Bool.or_true _
theorem seen {Q : Unit → Shared → Prop} {E : Value → Shared → Prop} (F : ExcBaseFacts Base new ini full) (same : ∀ T : String, tail.contains (.type T) = full.contains (.type T)) (h : Has hp nm qn Cl Ns bases tail hd slots subs abst coll dict s0 s1 s2 s3 s5 new)
    (k : Q () ⟨hp, gs, dr, tk, os⟩) : wpAny (model prog wo) Ar (checkBuiltinCall new ⟨[.ref Cl], kw⟩) Q E ⟨hp, gs, dr, tk, os⟩ := by
  have within := inTail (Cl := Cl) F same
  have ns := F.noStar
  unfold checkBuiltinCall
  simp only [F.newKind, F.newSplit, F.newRow]
  repeat (first | (refine wpAny_isSubtype_exc h ?_; rw [within]) | refine wpAny_staticBase_exc h ?_ | refine wpAny_madeBy_exc h ?_ | refine wpAny_loadPart_at h ?_ | simp only [Bool.false_eq_true, bne_self_eq_false, if_false] | wp_step)
  exact k
theorem bare {R : Result → Shared → Prop} (F : ExcBaseFacts Base new ini full) (same : ∀ T : String, tail.contains (.type T) = full.contains (.type T)) (h : Has hp nm qn Cl Ns bases tail hd slots subs abst coll dict s0 s1 s2 s3 s5 new)
    (k : R (.ok (.ret (.ref (hp.objs.size + 1)))) ⟨(hp.push (W.kdv_tup [])).push (excO Cl hp.objs.size), gs, dr, tk, os⟩) : codeAny (model prog wo) Ar (.builtin new ⟨[.ref Cl], kw⟩) R ⟨hp, gs, dr, tk, os⟩ := by
  have i1 := inTail (Cl := Cl) F same
  have i2 : (Value.ref Cl :: tail).contains (.type "AttributeError") = false := by rw [List.contains_cons, same, F.noAttr] <;> rfl
  have i3 : (Value.ref Cl :: tail).contains (.type "NameError") = false := by rw [List.contains_cons, same, F.noName] <;> rfl
  have en := F.ends
  apply codeAny_builtinAt F.entry
  unfold Builtin.«BaseException.__new__»
  apply wpAt_bind
  apply wpAt_bind
  apply wpAt_stack
  intro top below
  apply wpAt_of_wpAny
  wp_walk
  apply wpAt_of_wpAny
  rw [F.owner]
  repeat (first | with_reducible refine wpAny_madeHere_exc F.canon h ?_ | (with_reducible refine wpAny_isSubtype_exc h ?_; first | rw [i1] | rw [i2] | rw [i3]) | walk_at "stp")
  show R _ _
  rw [Heap.size_push]
  exact k
theorem called {Q : Fin → Shared → Prop} {E : Value → Shared → Prop} {fi : Addr} (F : ExcBaseFacts Base new ini full) (same : ∀ T : String, tail.contains (.type T) = full.contains (.type T)) (h : Has hp nm qn Cl Ns bases tail hd slots subs abst coll dict s0 s1 s2 s3 s5 new)
    (find : W.Looks (model prog wo) hp (typeLookup (.ref Cl) "__init__") (some (.ref fi))) (bound : ∀ me, W.Looks (model prog wo) hp (bindSpecial (.ref fi) me) (.ref fi, [me]))
    (run : codeAny (model prog wo) Ar (.call (.ref fi) ⟨[.ref (hp.objs.size + 1)], kw⟩) (fun r s' => match r with
      | .error e => E e s'
      | .ok (.ret u) => u = .none ∧ Q (.done (.ret (.ref (hp.objs.size + 1)))) s'
      | .ok _ => False) ⟨(hp.push (W.kdv_tup [])).push (excO Cl hp.objs.size), gs, dr, tk, os⟩) :
    wpAny (model prog wo) Ar (Builtin.«type.__call__» ⟨[.ref Cl], kw⟩) Q E ⟨hp, gs, dr, tk, os⟩ := by
  repeat walk_at "stp"
  apply codeAny_call_builtin_code (Code.quiet_builtin _ F.quiet) (seen F same h _)
  apply bare F same h
  show wpAny _ _ _ _ _ _
  have stay : ∀ b o, hp.get? b = some o → ((hp.push (W.kdv_tup [])).push (excO Cl hp.objs.size)).get? b = some o := fun b o e => Heap.get?_push_of_some _ (Heap.get?_push_of_some _ e)
  have cls := stay _ _ h
  have obj : ((hp.push (W.kdv_tup [])).push (excO Cl hp.objs.size)).get? (hp.objs.size + 1) = some (excO Cl hp.objs.size) := by heap_get
  have self : (Value.ref Cl :: tail).contains (.ref Cl) = true := by simp
  have find' := find.keeps stay
  have bound' := (bound (.ref (hp.objs.size + 1))).keeps stay
  unfold isInstance
  repeat (first | with_reducible refine wpAny_loadPart_at obj ?_ | (with_reducible refine wpAny_isSubtype_exc cls ?_; rw [self]) | wp_step)
  apply find'.at
  apply wpAny_holding
  apply wpAny_bind
  apply bound'.at
  apply wpAny_bind
  apply wpAny_call
  refine codeAny_mono run fun r s' q => ?_
  match r, q with
  | .error _, q => exact q
  | .ok (.ret u), ⟨e, q⟩ =>
    subst e
    first
      | exact wpAny_pure (wpAny_pure q)
      | (wp_walk; exact q)
theorem made {R : Result → Shared → Prop} {fi : Addr} (F : ExcBaseFacts Base new ini full) (same : ∀ T : String, tail.contains (.type T) = full.contains (.type T)) (h : Has hp nm qn Cl Ns bases tail hd slots subs abst coll dict s0 s1 s2 s3 s5 new)
    (find : W.Looks (model prog wo) hp (typeLookup (.ref Cl) "__init__") (some (.ref fi))) (bound : ∀ me, W.Looks (model prog wo) hp (bindSpecial (.ref fi) me) (.ref fi, [me]))
    (run : codeAny (model prog wo) (Ar.under (.builtin "type.__call__" ⟨[.ref Cl], kw⟩)) (.call (.ref fi) ⟨[.ref (hp.objs.size + 1)], kw⟩) (W.InitBack (hp.objs.size + 1) R) ⟨(hp.push (W.kdv_tup [])).push (excO Cl hp.objs.size), gs, dr, tk, os⟩) :
    codeAny (model prog wo) Ar (.call (.ref Cl) ⟨[], kw⟩) R ⟨hp, gs, dr, tk, os⟩ := by
  have t1 := tc_lookup
  have t2 := tc_bind (.ref Cl)
  have ty : (⟨hp, gs, dr, tk, os⟩ : Shared).TypeIs (.ref Cl) "type" := ⟨_, h, rfl⟩
  apply codeAny_of_tree
  show wpAny _ _ (callAny (.ref Cl) _) _ _ _
  repeat (any_goals (first | assumption | walk_at "stp"))
  refine ⟨rfl, codeAny_call_builtin_at (Code.quiet_builtin _ (by decide +kernel)) entry_typeCall (wpAny_check_type_call_sub h (called F same h find bound (codeAny_mono run ?_)))⟩
  intro r s' q
  cases r with
  | error _ => exact q
  | ok f => cases f <;> exact q
end
end Own

namespace L2
open PySem PySem.Spec PyProof.Rows
/-! ### exceptions as tracked objects -/
/-- an exception of the class at C stands at a, d its own dict's place -/
def xob (a C : Addr) (d : Option Addr) : HO := .ext fun h => ∃ (oe : Obj) (vs : Array Value), h.get? a = some oe ∧ Zc (.ref C) d oe ∧ oe.data = .fields vs
theorem xob_ok {P : Program} {w : World} {H : Hp} {h : Heap} {a C : Addr} {d : Option Addr} {oe : Obj} {vs : Array Value} (e : h.get? a = some oe) (z : Zc (.ref C) d oe) (hd : oe.data = .fields vs) : ObjOk P w H h a (xob a C d) :=
  ⟨⟨oe, vs, e, z, hd⟩, ⟨_, e⟩, fun _ _ ⟨o, vs, e, z, q⟩ k => ⟨o, vs, k _ e, z, q⟩⟩
theorem xob_at {P : Program} {w : World} {H : Hp} {h : Heap} {a C : Addr} {d : Option Addr} (hok : HOk P w H h) (he : H a = some (xob a C d)) : ∃ (oe : Obj) (vs : Array Value), h.get? a = some oe ∧ Zc (.ref C) d oe ∧ oe.data = .fields vs :=
  (show ObjOk P w H h a (.ext fun h => ∃ (oe : Obj) (vs : Array Value), h.get? a = some oe ∧ Zc (.ref C) d oe ∧ oe.data = .fields vs) from hok a _ he).1
/-- it is an instance in the library's sense; what its dict holds -/
theorem xob_inst {P : Program} {w : World} {H : Hp} {h : Heap} {a C dd : Addr} {fs : List (Str × V)} (hok : HOk P w H h) (he : H a = some (xob a C (some dd))) (hd : H dd = some (.xd fs)) :
    ∃ (oe od : Obj), PySem.W.InstAt h a oe C (some od) ∧ ∀ (f : Str) (v : V), fs.lookup f = some v → ∃ u, PySem.W.lookIn f od = some (some u) ∧ RelV v u := by
  obtain ⟨oe, vs, at_, hz, dat⟩ := xob_at hok he
  obtain ⟨mA, nsp, rel⟩ := show ObjOk P w H h dd (.xd fs) from hok dd _ hd
  obtain ⟨od, atd, look⟩ := lookIn_ns nsp
  refine ⟨oe, od, ⟨at_, hz.1, by simp only [PySem.W.notCls, dat], by rw [hz.2]; exact atd⟩, fun f v e => ?_⟩
  obtain ⟨u, hu, ru⟩ := RelO.some_of (v := v) (o := mA f) (e ▸ rel f)
  exact ⟨u, (look f).trans (congrArg some hu), ru⟩
theorem xob_inst0 {P : Program} {w : World} {H : Hp} {h : Heap} {a C : Addr} (hok : HOk P w H h) (he : H a = some (xob a C none)) : ∃ oe : Obj, PySem.W.InstAt h a oe C none := by
  obtain ⟨oe, vs, at_, hz, dat⟩ := xob_at hok he
  exact ⟨oe, at_, hz.1, by simp only [PySem.W.notCls, dat], by rw [hz.2]; exact True.intro⟩
/-- the kinds that may be told anew -/
def Loose : HO → Prop
  | .ext _ => True
  | .xd _ => True
  | _ => False
theorem Loose.no {o : HO} (h : Loose o) : (∀ x, o ≠ .own x) ∧ (∀ xs, o ≠ .tup xs) ∧ (∀ b u, o ≠ .frz b u) ∧ (∀ ps, o ≠ .tbl ps) := by
  cases o <;> first | exact h.elim | exact ⟨(fun _ z => nomatch z), (fun _ z => nomatch z), (fun _ _ z => nomatch z), (fun _ z => nomatch z)⟩
section
variable {X : Cx} {pins : List (Addr × Obj)} {σ : St} {H : Hp} {s : Shared} {a : Addr} {o o' : HO}
theorem Inv.retell (I : Inv X pins σ H s) (e : H a = some o) (l : Loose o) (ok : ObjOk X.prog X.w (upd H a o') s.heap a o') : Inv X pins σ (upd H a o') s := by
  obtain ⟨nw, nt, nf, nb⟩ := l.no
  have ne : ∀ {b u}, H b = some u → o ≠ u → b ≠ a := fun {b u} q d z => by rw [z, e] at q; exact d (Option.some.inj q)
  have na : ∀ {b}, H b = none → b ≠ a := fun {b} q z => by rw [z, e] at q; cases q
  have U : Un X.fs [] H (upd H a o') s.heap s.heap := {
    keep := fun b o q _ _ _ => q
    slot := fun b o q _ _ _ => ⟨o.slots, q⟩
    free := fun b o q n _ => by rw [upd_ne (na n)]; exact n
    there := fun b o q _ => ⟨o, q⟩
    tups := fun b xs q => by rw [upd_ne (ne q (nt xs))]; exact q
    frzs := fun b o v q => by rw [upd_ne (ne q (nf o v))]; exact q
    tbls := fun b ps q => ⟨#[], by rw [upd_ne (ne q (nb ps)), q]; simp⟩ }
  exact I.un (t' := s.toks) U fun b u q => by
    by_cases hb : b = a
    · subst hb
      rw [upd_same] at q
      cases q
      exact ok
    · rw [upd_ne hb] at q
      exact (I.hok b u q).stay (fun c v _ z => z) (fun c hc => by rw [upd_ne (ne hc (nw b))]; exact hc) fun c xs hc => by rw [upd_ne (ne hc (nt xs))]; exact hc
/-- an object that was made behind the entry, not tracked as yet, is tracked -/
theorem Inv.track (I : Inv X pins σ H s) (na : H a = none) (n0 : X.s_0.heap.get? a = none) (nL : a ≠ X.env.locals) (nC : ∀ x c, X.env.cells.lookup x = some c → c ≠ a) (nP : ∀ p ∈ X.pn ++ pins, p.1 ≠ a)
    (new : ObjOk X.prog X.w (upd H a o) s.heap a o) : Inv X pins σ (upd H a o) s where
  ok := I.ok
  os := I.os
  bare := I.bare
  loc := I.loc
  cell := I.cell
  len := I.len
  free := (upd_ne nL.symm).trans I.free
  freeC := fun x c e => (upd_ne (nC x c e)).trans (I.freeC x c e)
  pin := fun p hp => let ⟨p1, p2, r⟩ := I.pin p hp; ⟨p1, (upd_ne (nP p hp)).trans p2, r⟩
  base := {
    keep := I.base.keep
    slot := I.base.slot
    there := I.base.there
    free := fun b ob e n hx => (upd_ne fun z => by rw [z, n0] at e; cases e).trans (I.base.free b ob e n hx)
    tups := fun b xs q => (upd_ne (ne_of_none (I.base.tups b xs q) na)).trans (I.base.tups b xs q)
    frzs := fun b ob u q => (upd_ne (ne_of_none (I.base.frzs b ob u q) na)).trans (I.base.frzs b ob u q)
    tbls := fun b ps q => let ⟨m, y⟩ := I.base.tbls b ps q; ⟨m, (upd_ne (ne_of_none y na)).trans y⟩ }
  hok := fun b u e => by
    by_cases hb : b = a
    · cases hb
      rw [upd_same] at e
      cases e
      exact new
    · rw [upd_ne hb] at e
      exact (I.hok b u e).stay (fun c v _ z => z) (fun c hc => (upd_ne (ne_of_none hc na)).trans hc) fun c xs hc => (upd_ne (ne_of_none hc na)).trans hc
end
/-! ### e.f, isinstance(e, c), e such an exception -/
def tXfT (K : PySem.W.Frag) (f : Str) (te : TE) : TE := fun σ H Q => te σ H fun x H1 => ∃ (a C dd : Addr) (fs : List (Str × V)) (v : V), x = .ref a ∧ XfC K C ∧ PySem.W.findIn K (.ref C) f = some none ∧ H1 a = some (xob a C (some dd)) ∧ H1 dd = some (.xd fs) ∧ fs.lookup f = some v ∧ Q v H1
theorem pe_xfT {X : Cx} {e : Expr} {te : TE} {pos : Pos} {n : Str} (he : PE X e te) (hb : attributeBase e n X.env (eval e X.env) = eval e X.env := by rfl) : PE X (.Attribute e n pos) (tXfT X.K n te) where
  run := fun pins s σ H Q I h => attr_of hb (thn (he.run pins s σ H _ I h) fun u s1 ⟨x, H1, I1, rx, a, C, dd, fs, v, ex, T, no, ea, ed, lk, q⟩ => by
    cases ex
    cases rx
    obtain ⟨oe, od, J, look⟩ := xob_inst I1.hok ea ed
    obtain ⟨u, hu, ru⟩ := look n v lk
    exact HandSPX.exc_get I1.kIn J T.ga T.gg T.exC (PySem.W.findObj_own T.hdC no rfl hu) (handed_of ru) ⟨v, H1, I1.tok _, ru, q⟩)
/-- an exception's dict: none, or told -/
def OdAt (H : Hp) (d : Option Addr) : Prop := d = none ∨ ∃ dd fs, d = some dd ∧ H dd = some (.xd fs)
def rIsT (K : PySem.W.Frag) : List V → Hp → VK → Prop := fun xs H Q => ∃ (a C : Addr) (d : Option Addr) (c : V) (cv : Value) (b : Bool), xs = [.ref a, c] ∧ H a = some (xob a C d) ∧ OdAt H d ∧ ExcC K C ∧ (∀ u, RelV c u → u = cv) ∧ PySem.W.kitOne K (.ref C) cv = some b ∧ Q (.bl b) H
theorem call_isT {X : Cx} : CallR X (.builtin "isinstance") (rIsT X.K) := fun pins s σ H xs us Q I r ⟨a, D, d, c, cv, b, ex, ea, hd, C, hcv, e, q⟩ => by
  cases ex
  obtain ⟨u, v, rfl, ru, rv⟩ := vals2 r
  cases ru
  cases hcv v rv
  have some_cls : (PySem.W.clsIn X.K D).isSome = true := by
    obtain ⟨cd, h1, _⟩ := PySem.W.any_some C.hd
    rw [h1]; rfl
  have inst : ∃ oe od, PySem.W.InstAt s.heap a oe D od := by
    rcases hd with rfl | ⟨dd, fs, rfl, hdd⟩
    · obtain ⟨oe, J⟩ := xob_inst0 I.hok ea
      exact ⟨oe, _, J⟩
    · obtain ⟨oe, od, J, _⟩ := xob_inst I.hok ea hdd
      exact ⟨oe, _, J⟩
  obtain ⟨oe, od, J⟩ := inst
  exact PySem.W.kia_one (PySem.W.kitx_exc some_cls C.hg C.hk C.hs C.ha C.hn C.ht C.hm) I.kIn J e (fun z => nomatch z) fun tk => ⟨.bl b, H, I.kept (t' := tk) fun _ _ z => z, rfl, q⟩

/-! ### defs that may be called where an exception is handled -/
abbrev RoomW := L2H.RoomH
theorem roomW {k : Nat} {A : Around} (r : Room k A) : RoomW k A := L2H.roomH_of r
structure FnW (P : Program) (w : World) (K : PySem.W.Frag) (mg : Str → Option Value) (base : Heap) (CX : CXT) (k : Nat) (f : Addr) (fd : FuncData) (ps : List Str) (sp : Sp) : Prop where
  arity : ∀ vs H Q E, sp vs H Q E → vs.length = ps.length
  go : ∀ (A : Around) (outer : List Env) (s : Shared) (H : Hp) (args : Args) (us : List Value) (vs : List V) (Q : VK) (E : XK), RoomW k A → Env0 P w K mg base A outer s H → BindsTo s fd args (ps.zip us) → Vals vs us → sp vs H Q E → codeAny (model P w) A (.call (.ref f) args) (CR CX outer P w H s Q E) s
theorem FnW.ok {P : Program} {w : World} {K : PySem.W.Frag} {mg : Str → Option Value} {base : Heap} {CX : CXT} {k : Nat} {f : Addr} {fd : FuncData} {ps : List Str} {sp : Sp} (F : FnW P w K mg base CX k f fd ps sp) : FnOk P w K mg base CX k f fd ps sp :=
  ⟨F.arity, fun A outer s H args us vs Q E hr => F.go A outer s H args us vs Q E (roomW hr)⟩
/-- the context of such a def's body: nothing is said of what is handled -/
abbrev Cx.warm (X : Cx) (A : Around) (xe : Value → Shared → Prop) : Cx := { X with A := A, calm := false, xe := xe }
theorem Inv.warm {X : Cx} {pins : List (Addr × Obj)} {σ : St} {H : Hp} {s : Shared} {A : Around} {xe : Value → Shared → Prop} (I : Inv X pins σ H s) (hA : A.frames = some X.stack) : Inv (X.warm A xe) pins σ H s where
  ok := { I.ok with hd := fun z => (Bool.false_ne_true z).elim, frames := hA }
  os := I.os
  bare := I.bare
  base := I.base
  loc := I.loc
  cell := I.cell
  free := I.free
  freeC := I.freeC
  pin := I.pin
  hok := I.hok
  len := I.len
/-- the body's context -/
abbrev cxW (CX : CXT) (P : Program) (w : World) (K : PySem.W.Frag) (mg : Str → Option Value) (base : Heap) (N : List Str) (qual : Str) (scope : Scope) (f : Addr) (cd : Value) (A : Around) (outer : List Env) (s : Shared) (H : Hp) (E : XK) : Cx :=
  { cxOf CX P w K mg base N qual scope f cd A outer s H E with calm := false }
theorem Fun.okW {P : Program} {w : World} {K : PySem.W.Frag} {mg : Str → Option Value} {base : Heap} {x qual : Str} {st : Stmt} {f : Addr} {fd : FuncData} {N ps : List Str} {k : Nat} {sp : Sp} (F : Fun K x qual st f fd) (S : FnScope N ps (defScope st)) (hps : ∀ vs H Q E, sp vs H Q E → vs.length = ps.length)
    (body : ∀ (cdv : Value) (A : Around) (outer : List Env) (s : Shared) (H : Hp) (vs : List V) (Q : VK) (E : XK), RoomW k (A.deeper (envOfC qual (defScope st) s.heap.objs.size f cdv)) → sp vs H Q E →
      ∃ t, PSs (cxW CX0 P w K mg base N qual (defScope st) f cdv A outer s H E).nox (defBody st) t ∧ t { nx := fun _ H' => Q .non H', rt := Q } (start N vs) H) : FnW P w K mg base CX0 (k + 1) f fd ps sp := by
  obtain ⟨_, _, kV, doc, pm, an, cdv, ct, _, rfl, here, code⟩ := F.ex
  refine ⟨hps, fun A outer s H args us vs Q E room e0 bind r h => ?_⟩
  have KX : K.In s.heap := e0.mod.kin.keeps fun _ _ e => (e0.bs _ _ e).1
  have many := hps _ _ _ _ h
  refine Att.call_fn KX (e0.mod.nolimit.keeps fun _ _ e => (e0.bs _ _ e).1) here code room.depth bind ?_ (fun s1 ic => ?_) S.co S.gen S.kind
  · refine List.all_eq_true.mpr fun y hy => ?_
    rcases S.par y.1 (List.of_mem_zip (show (y.1, y.2) ∈ ps.zip us from hy)).1 with z | z <;> simp [z]
  · obtain ⟨t, ht, q⟩ := body cdv A outer s H vs Q E (room.deeper _) h
    have e1 : Env0 P w K mg base { A with handled := none } outer s H := ⟨e0.frames, e0.mod, e0.bs, e0.bsz, e0.funs, e0.frf, e0.hok, e0.bare⟩
    have I0 := inv_start (CX := CX0) (P := P) (w := w) (mg := mg) (base := base) (f := f) (cd := cdv) (A := { A with handled := none }) (E := E) S rfl e1 many r ic
    have I : Inv (cxW CX0 P w K mg base N qual (defScope st) f cdv A outer s H E) [] (start N vs) H s1 := I0.warm (A := A.deeper (envOfC qual (defScope st) s.heap.objs.size f cdv)) (Around.frames_deeper e0.frames)
    refine wpAny_mono (ht.nox.run [] s1 _ H _ I q) (fun fl s2 hs => ?_) fun _ _ z => z
    cases fl with
    | ret u =>
      obtain ⟨v, _, H', J, rv, q'⟩ := hs
      exact ⟨v, H', J.os, J.bare, J.base, J.hok, rv, q'⟩
    | next =>
      obtain ⟨_, H', J, q'⟩ := hs
      exact ⟨.non, H', J.os, J.bare, J.base, J.hok, rfl, q'⟩
    | brk => exact hs.elim fun _ z => z.elim fun _ z => z.2.elim
    | cont => exact hs.elim fun _ z => z.elim fun _ z => z.2.elim
/-- f(e, ..) of such a def -/
theorem pe_callW {X : Cx} {CX : CXT} {k : Nat} {f : Addr} {fd : FuncData} {ps : List Str} {sp : Sp} {E : XK} {x : Str} {q pos : Pos} {e : Expr} {es : List Expr} {t : TA}
    (F : FnW X.prog X.w X.K X.mg X.base CX k f fd ps sp) (room : RoomW k X.A) (gl : Gl X x) (is : X.mg x = some (.ref f)) (kp : PySem.W.keepIn X.K (.ref f) = true) (bind : Binds X.K fd ps []) (pass : Passes CX X E) (args : PA X (e :: es) t)
    (nodebug : (x == ("__debug__" : Str)) = false := by decide) (first : starEach (e :: es) X.env = (false, eval e X.env) :: starEach es X.env := by rfl) (nostar : (backTo pos (starEach es X.env)).any (·.1) = false := by rfl) :
    PE X (.Call (.Name x q) (e :: es) [] pos) (fun σ H Q => t σ H fun vs H1 => sp vs H1 Q E) where
  run := fun pins s σ H Q I h => wpAny_Call_Name_kw (ld_glob I gl is (PySem.W.callWith_K (h₀ := X.base) I.ok.mod.kin kp (thn (args.run pos pins s σ H _ I h) fun us s1 ⟨vs, H1, I1, r, y⟩ => ⟨I1.kIn, by
    have n : us.length = ps.length := r.length.symm.trans (F.arity _ _ _ _ y)
    have b := bind s1 us I1.kIn (by simpa using n)
    simp only [List.append_nil] at b
    refine wpAny_call (codeAny_mono (F.go X.A X.stack s1 H1 ⟨us, []⟩ us vs Q E room I1.env0 b r y) fun res s2 z => ?_)
    match res, z with
    | .error er, z => exact pass pins σ H1 s1 er s2 I1 z
    | .ok (.ret _), z => exact I1.after z⟩) first nostar) nodebug)

/-! ### try: body, except M as n: suite, where every exception of the body is an own one that M names -/
section
variable {X : Cx} {pins : List (Addr × Obj)} {σ : St} {H : Hp} {s : Shared}
/-- the suite's context, the exception tracked, not pinned -/
theorem Inv.inSuite (I : Inv X pins σ H s) (a : Addr) : Inv (X.suite a (X.pn ++ pins)) [] σ H s where
  ok := I.ok.suite a _
  os := I.os
  bare := I.bare
  base := I.base
  loc := I.loc
  cell := I.cell
  free := I.free
  freeC := I.freeC
  pin := fun p hp => I.pin p ((List.append_nil (X.pn ++ pins)) ▸ hp)
  hok := I.hok
  len := I.len
theorem Inv.outSuite {a : Addr} (I : Inv (X.suite a (X.pn ++ pins)) [] σ H s) (ok : X.Ok) : Inv X pins σ H s where
  ok := ok
  os := I.os
  bare := I.bare
  base := I.base
  loc := I.loc
  cell := I.cell
  free := I.free
  freeC := I.freeC
  pin := fun p hp => I.pin p ((List.append_nil (X.pn ++ pins)).symm ▸ hp)
  hok := I.hok
  len := I.len
end
/-- the ends of a suite: slot i is emptied -/
def Ends.less (D : Ends) (i : Nat) : Ends := { nx := fun σ H => D.nx (σ.set i none) H, rt := D.rt, bk := fun σ H => D.bk (σ.set i none) H, ct := fun σ H => D.ct (σ.set i none) H }
/-- what is wished of an exception of the body -/
def wAsT (K : PySem.W.Frag) (c : Value) (i : Nat) (ts : TS) (D : Ends) : WX := fun cls d σ H => PySem.W.exmOne K cls c = some true ∧ ∃ C : Addr, cls = .ref C ∧ ∀ a, H a = none → ts (D.less i) (σ.set i (some (.ref a))) (upd H a (xob a C d))
section
variable {X : Cx} {x n : Str} {c : Value} {i : Nat} {body suite : List Stmt} {b0 : Stmt} {p1 p2 p3 : Pos} {tb : WX → TS} {ts : TS}
/-- what came behind the state I is none of its things -/
theorem newcomer {pins : List (Addr × Obj)} {σ : St} {H : Hp} {s : Shared} {a : Addr} (I : Inv X pins σ H s) (alone : X.ex = []) (no : s.heap.get? a = none) :
    X.s_0.heap.get? a = none ∧ a ≠ X.env.locals ∧ (∀ x c, X.env.cells.lookup x = some c → c ≠ a) ∧ ∀ p ∈ X.pn ++ pins, p.1 ≠ a := by
  have some_not : ∀ {b : Addr} {o : Obj}, s.heap.get? b = some o → b ≠ a := fun {b o} e z => by rw [z, no] at e; cases e
  refine ⟨Option.eq_none_iff_forall_ne_some.mpr fun o e => ?_, ?_, fun x c e => ?_, fun p hp => some_not (I.pin p hp).1⟩
  · obtain ⟨o', z⟩ := I.base.there a o e (by simp [alone])
    exact some_not z rfl
  · obtain ⟨m, ⟨o, _, _, e, _⟩, _⟩ := I.loc
    exact (some_not e).symm
  · obtain ⟨v, o, e', _⟩ := I.cell x c e
    exact some_not e'
/-- an exception has come to the try: its suite runs -/
theorem caught {pins : List (Addr × Obj)} {D : Ends} {u : Value} {s : Shared} {xe : Value → Shared → Prop} (alone : X.ex = []) (top : X.stack = X.env :: X.outer) (frame : X.env.frame = some X.env.locals) (nodup : X.N.Nodup) (slot : X.N[i]? = some n) (loc : X.env.kindOf n = some .local) (names : Names X x c) (ok : X.Ok)
    (run : ∀ (a : Addr) (pn : List (Addr × Obj)), PSs (X.suite a pn) (b0 :: suite) ts) (fly : XE (X.tr (X.pn ++ pins) xe) (wAsT X.K c i ts D) u s) :
    wpAny (model X.prog X.w) X.A (noteFrame u X.env) (fun _ s2 => wpAny (model X.prog X.w) X.A (setFlight u none) (fun _ s3 => wpAny (model X.prog X.w) X.A (handleBy u X.env [.ExceptHandler (some (.Name x p1)) (some n) (b0 :: suite) p2]) (SP X pins D) X.xe s3) X.xe s2) X.xe s := by
  obtain ⟨a, ground, sI, _, σ1, H1, cls, d, rfl, Jt, stays, slots, sky, free, os, gens, named, C, rfl, wish⟩ := fly
  have J : Inv X pins σ1 H1 sI := Jt.ofTry ok
  refine Sky.land Zc.steady (ok.frames.trans (congrArg some top)) frame (top ▸ sky) fun h3 f3 up3 => ?_
  obtain ⟨o3, v3, g3, z3, d3⟩ := f3.there
  have notFrame : a ∉ frs X.stack := fun hm => by
    obtain ⟨_, o, e, other⟩ := f3.2.2.1.mem (top ▸ hm)
    exact other v3 (Option.some.inj (e.symm.trans g3) ▸ d3)
  have absent : sI.heap.get? a = none := Option.eq_none_iff_forall_ne_some.mpr fun o e => by
    have z := stays a o e notFrame
    rw [f3.2.1] at z
    cases z
  obtain ⟨n0, nL, nC, nP⟩ := newcomer J alone absent
  have J3 : Inv X pins σ1 H1 { s with heap := h3 } := J.landed stays f3.1 (slots.trans up3) os gens
  have clause : ∀ {Q : Value → Shared → Prop} {E : Value → Shared → Prop}, Q c { s with heap := h3 } → wpAny (model X.prog X.w) (X.A.mark (some (.ref a))) (eval (.Name x p1) X.env) Q E { s with heap := h3 } := fun {Q E} q => by
    rcases names with ⟨gl, dbg, is | ⟨no, boot, other⟩⟩
    · exact ld_glob (J3.inSuite a) gl is q dbg
    · exact ld_blt (J3.inSuite a) gl no boot q other dbg
  have cls3 : PySem.W.Looks (model X.prog X.w) h3 (typeOf (.ref a)) (.ref C) := fun _ _ _ _ keep q => wpAny_typeOf_ref (keep _ _ g3) (z3.1.symm ▸ q)
  refine wpAny_handleBy_cons (codeAny_handlers_test (clause ((PySem.W.exm_one (M := model X.prog X.w) J3.kIn cls3 named).here ?_))) (fun z => nomatch z)
  refine codeAny_handlers_suite_as (HandSPX.lands_againZ f3 fun h4 f4 up4 => ?_)
  obtain ⟨o4, v4, g4, z4, d4⟩ := f4.there
  have J4 : Inv X pins σ1 H1 { s with heap := h4 } := J.landed stays f4.1 ((slots.trans up3).trans up4) os gens
  have J5 := (J4.track free n0 nL nC nP (xob_ok g4 z4 d4)).inSuite a
  refine store_ok (X := X.suite a (X.pn ++ pins)) (v := .ref a) J5 nodup slot (.inl loc) rfl (fun s5 S5 => ?_) (.inr loc)
  have leave : ∀ {σ6 : St} {H6 : Hp} {s6 : Shared} {Q : Shared → Prop}, Inv (X.suite a (X.pn ++ pins)) [] σ6 H6 s6 → (∀ s7, Inv X pins (σ6.set i none) H6 s7 → Q s7) → wpAny (model X.prog X.w) X.A (do bindName X.env n .none; unbindBehindTheSuite X.env n p2) (fun _ s7 => Q s7) X.xe s6 :=
    fun S6 q => gone_ok (S6.outSuite ok) nodup slot loc q
  refine wpAny_mono ((run a (X.pn ++ pins)).run [] s5 _ _ _ S5 (wish a free)) (fun fl s6 q => ?_) fun _ _ z => z.elim
  match fl, q with
  | .next, ⟨_, _, S6, q⟩ => exact leave S6 fun _ J7 => ⟨_, _, J7, q⟩
  | .brk, ⟨_, _, S6, q⟩ => exact leave S6 fun _ J7 => ⟨_, _, J7, q⟩
  | .cont, ⟨_, _, S6, q⟩ => exact leave S6 fun _ J7 => ⟨_, _, J7, q⟩
  | .ret _, ⟨_, _, _, S6, r, q⟩ => exact leave S6 fun _ J7 => ⟨_, _, _, J7, r, q⟩
theorem ps_try_asT (alone : X.ex = []) (top : X.stack = X.env :: X.outer) (frame : X.env.frame = some X.env.locals) (nodup : X.N.Nodup) (slot : X.N[i]? = some n) (loc : X.env.kindOf n = some .local) (names : Names X x c)
    (try_ : ∀ (W : WX) (pn : List (Addr × Obj)) (xe : Value → Shared → Prop), Takes (X.tr pn xe) W → PSs (X.tr pn xe) body (tb W)) (run : ∀ (a : Addr) (pn : List (Addr × Obj)), PSs (X.suite a pn) (b0 :: suite) ts) :
    PS X (.Try body [.ExceptHandler (some (.Name x p1)) (some n) (b0 :: suite) p2] [] [] p3) (fun D σ H => tb (wAsT X.K c i ts D) D σ H) where
  run := fun pins s σ H D I h => by
    have ok := I.ok
    refine wpAny_Try_except (wpAny_mono ((try_ (wAsT X.K c i ts D) (X.pn ++ pins) _ fun u s' y => caught alone top frame nodup slot loc names ok run y).run [] s σ H D (I.toTry _) h) (fun fl s1 q => ?_) fun _ _ z => z)
    match fl, q with
    | .next, ⟨_, _, J, q⟩ => exact wpAny_execs_nil ⟨_, _, J.ofTry ok, q⟩
    | .brk, ⟨_, _, J, q⟩ => exact ⟨_, _, J.ofTry ok, q⟩
    | .cont, ⟨_, _, J, q⟩ => exact ⟨_, _, J.ofTry ok, q⟩
    | .ret _, ⟨_, _, _, J, r, q⟩ => exact ⟨_, _, _, J.ofTry ok, r, q⟩
end
end L2

namespace L2
open PySem PySem.Spec PyProof.Rows
/-! ### an own exception made as a value -/
/-- C(k = v, ..), C's own __init__ keeping sp -/
def tXMk (C : Addr) (n : Nat) (sp : Sp) (gV : List V → List V → List V) (tk : TA) : TE := fun σ H Q => tk σ H fun zs H1 => zs.length = n ∧ ∀ a, H1 a = none → sp (gV [.ref a] zs) (upd H1 a (exo a C none))
  (fun v H2 => v = .non ∧ ∃ (d : Addr) (fs : List (Str × V)), H2 a = some (exo a C (some d)) ∧ H2 d = some (exd d fs) ∧ d ≠ a ∧ Q (.ref a) (upd (upd H2 d (.xd fs)) a (xob a C (some d)))) (fun _ _ _ => False)
section
variable {X : Cx} {CX : CXT} {k : Nat} {C fI : Addr} {fd : FuncData} {ps ks : List Str} {sp : Sp} {x : Str} {p pos : Pos} {kws : List Keyword} {tk : TA} {g : List Value → List Value → List Value} {gV : List V → List V → List V}
/-- behind __init__ the exception stands as a made one -/
theorem Inv.finished {pins : List (Addr × Obj)} {σ : St} {H : Hp} {s : Shared} {a d : Addr} {fs : List (Str × V)} (I : Inv X pins σ H s) (ea : H a = some (exo a C (some d))) (ed : H d = some (exd d fs)) (ne : d ≠ a) : Inv X pins σ (upd (upd H d (.xd fs)) a (xob a C (some d))) s := by
  have J : Inv X pins σ (upd H d (.xd fs)) s := I.retell ed True.intro (exd_at I.hok ed)
  have ea' : (upd H d (.xd fs)) a = some (exo a C (some d)) := (upd_ne ne.symm).trans ea
  obtain ⟨t, at_⟩ := exo_at J.hok ea'
  exact J.retell ea' True.intro (xob_ok at_ ⟨rfl, rfl⟩ rfl)
theorem pe_xmk (T : OexC X.K C) (ini : PySem.W.findIn X.K (.ref C) "__init__" = some (some (.ref fI))) (fn : PySem.W.typeIn X.K (.ref fI) = some (.type "function"))
    (fnok : FnOk X.prog X.w X.K X.mg X.base CX k fI fd ps sp) (room : Room (k + 1) X.A) (bind : KBn X.K fd ps 1 ks g gV) (pass : Passes CX X (fun _ _ _ => False)) (gl : Gl X x) (is : X.mg x = some (.ref C)) (vals : PK X kws tk)
    (named : (backToKw pos (keywordEach kws X.env)).all (·.1.isSome) = true := by rfl) (names : (backToKw pos (keywordEach kws X.env)).filterMap (·.1) = ks := by rfl) (nodebug : (x == ("__debug__" : Str)) = false := by decide)
    (plain : ((backTo pos (starEach [] X.env)).any (·.1) || (backToKw pos (keywordEach kws X.env)).any (·.1.isNone)) = false := by rfl) : PE X (.Call (.Name x p) [] kws pos) (tXMk C ks.length sp gV tk) where
  run := fun pins s σ H Q I h => by
    obtain ⟨_, _, _, _, bm, _, _, _, _, _, _, _, _, _, _, cls, mro⟩ := T.cls
    refine wpAny_Call_Name_kw (ld_glob I gl is (PySem.W.callWith_KW0 (h₀ := X.base) I.ok.mod.kin T.kC named (thn (vals.run pos pins s σ H _ I h) fun ws s1 ⟨zs, H1, I1, rz, hz, q1⟩ => ⟨I1.kIn, ?_⟩) plain) nodebug)
    obtain ⟨hp, gs, dr, tks, os⟩ := s1
    have new : H1 (hp.objs.size + 1) = none := I1.hok.fresh (Nat.le_succ _)
    have I2 : Inv X pins σ (upd H1 (hp.objs.size + 1) (exo (hp.objs.size + 1) C none)) ⟨(hp.push (PySem.W.kdv_tup [])).push (PySem.HandSPX.excO C hp.objs.size), gs, dr, tks, os⟩ :=
      I1.laid (t' := tks) (o := exo (hp.objs.size + 1) C none) (fun _ _ e => Heap.get?_push_of_some _ (Heap.get?_push_of_some _ e)) (Nat.le_succ _) (exo_ok (by heap_get))
    have q2 := q1 _ new
    rw [names]
    show wpAny _ _ (call (.ref C) [] (ks.zip ws)) _ _ _
    refine wpAny_call (Own.made (kw := ks.zip ws) PySem.F.excBase_ValueError (fun Y => PySem.HandSPX.refsVE_contains Y bm mro) (I1.kIn _ _ cls) (PySem.W.looks_findIn I1.kIn ini) (fun me => PySem.W.bind_fn I1.kIn me fn)
      (codeAny_mono (fnok.run _ X.stack _ _ ⟨[.ref (hp.objs.size + 1)], ks.zip ws⟩ (g [.ref (hp.objs.size + 1)] ws) _ _ (fun _ _ _ => False) (room.make C [] (ks.zip ws)) (I2.env0.make C [] (ks.zip ws))
        (bind.to _ [.ref (hp.objs.size + 1)] ws I2.kIn rfl (rz.length.symm.trans hz)) (bind.rel (show Vals [V.ref (hp.objs.size + 1)] [Value.ref (hp.objs.size + 1)] from .cons rfl .nil) rz) q2) fun r s2 y => ?_))
    match r, y with
    | .error er, y => exact pass pins σ _ _ er s2 I2 y
    | .ok (.ret u), y =>
      obtain ⟨_, H3, I3, rv, rfl, d, fs, ea, ed, ne, q3⟩ := I2.after y
      exact ⟨rv, .ref (hp.objs.size + 1), _, I3.finished ea ed ne, rfl, q3⟩
/-- C(), C without own __init__, as a value; raised -/
theorem pe_xmk0 {full : List Value} {Base new ini : String} (F : ExcBaseFacts Base new ini full) (own : PySem.W.excIn X.K C full new = true) (is : X.mg x = some (.ref C)) (kp : PySem.W.keepIn X.K (.ref C) = true) (gl : Gl X x) (nodebug : (x == ("__debug__" : Str)) = false := by decide) :
    PE X (.Call (.Name x p) [] [] pos) (fun _ H Q => ∀ a, H a = none → Q (.ref a) (upd H a (xob a C none))) where
  run := fun pins s σ H Q I h => wpAny_Call_Name_kw (ld_glob I gl is (PySem.W.callWith_K0 I.kIn kp (by
    obtain ⟨_, _, _, _, _, _, _, _, _, _, _, _, _, _, _, _, _, cls, ns, no, tl⟩ := exc_obj I.kIn own
    refine wpAny_call_exc_subT F tl cls ns no (fun h' a m => ?_) (Nat.zero_le _)
    have free := I.hok.gone m.new
    obtain ⟨_, at_, _⟩ := m.there
    exact ⟨.ref a, _, I.laidN m.keeps m.new free (xob_ok at_ ⟨rfl, rfl⟩ rfl), rfl, h a free⟩)) nodebug)
theorem pmk_own0 {full : List Value} {Base new ini : String} (F : ExcBaseFacts Base new ini full) (own : PySem.W.excIn X.K C full new = true) (is : X.mg x = some (.ref C)) (kp : PySem.W.keepIn X.K (.ref C) = true) (r : Raises X (.ref C)) (gl : Gl X x) (nodebug : (x == ("__debug__" : Str)) = false := by decide) :
    PMk X (.Call (.Name x p) [] [] pos) (fun _ H Q => Q (.ref C) none H) := fun pins s σ H Q I h => wpAny_Call_Name_kw (ld_glob I gl is (PySem.W.callWith_K0 I.kIn kp (by
    obtain ⟨_, _, _, _, _, _, _, _, _, _, _, _, _, _, _, _, _, cls, ns, no, tl⟩ := exc_obj I.kIn own
    exact wpAny_call_exc_subT F tl cls ns no (fun h' e m => mk_of I m r h (I.hok.gone m.new)) (Nat.zero_le _))) nodebug)
end
end L2

namespace Kx
open PySem L2
def top (i : Nat) : Stmt := PySem.Challenge.pw_nevermiss_k06_wrong_texts_of_machines.main.body.getD i (.Pass ⟨0, 0, 0, 0⟩)
abbrev s__law_pen : Stmt := top 31
abbrev s__law_draw : Stmt := top 32
abbrev s__law_pick : Stmt := top 33
/-- a def of the text, as it stands behind the top -/
structure DefT (K : PySem.W.Frag) (mg : Str → Option Value) (name qual : Str) (st : Stmt) (ps : List Str) (f : Addr) (fd : FuncData) : Prop where
  g : mg name = some (.ref f)
  F : Fun K name qual st f fd
  b : Binds K fd ps []
/-! ### the pen -/
/-- all but what stands at p is as it was -/
def SameBut (p : Addr) (H H' : Hp) : Prop := ∀ b o, H b = some o → b ≠ p → H' b = some o
theorem SameBut.refl (p : Addr) (H : Hp) : SameBut p H H := fun _ _ h _ => h
theorem SameBut.trans {p : Addr} {H H1 H2 : Hp} (a : SameBut p H H1) (b : SameBut p H1 H2) : SameBut p H H2 := fun c o h n => b c o (a c o h n) n
theorem SameBut.of {p : Addr} {H H' : Hp} (a : Same H H') : SameBut p H H' := fun c o h _ => a c o h
theorem Same.upd {H : Hp} {p : Addr} {o : HO} (h : H p = none) : Same H (upd H p o) := fun b u e => by rw [upd_ne (ne_of_none e h)]; exact e
theorem SameBut.upd {H : Hp} {p : Addr} {o : HO} : SameBut p H (upd H p o) := fun b u e n => by rw [upd_ne n]; exact e
theorem SameBut.new {H : Hp} {p q : Addr} {o : HO} (h : H q = none) : SameBut p H (L2.upd H q o) := .of (Same.upd h)
abbrev kCells : Key := Sum.inr "cells"
abbrev kAt : Key := Sum.inr "at"
abbrev kLeft : Key := Sum.inr "left"
def penKvs (c : Addr) (a l : Int) : List (Key × V) := [(kCells, .ref c), (kAt, .int a), (kLeft, .int l)]
theorem n_ca : ¬ (kCells = kAt) := by decide +kernel
theorem n_cl : ¬ (kCells = kLeft) := by decide +kernel
theorem n_al : ¬ (kAt = kLeft) := by decide +kernel
theorem pen_cells (c : Addr) (a l : Int) : valV (penKvs c a l) kCells = some (.ref c) := valV_pos rfl
theorem pen_at (c : Addr) (a l : Int) : valV (penKvs c a l) kAt = some (.int a) := by
  unfold penKvs
  rw [valV_neg n_ca]
  exact valV_pos rfl
theorem pen_left (c : Addr) (a l : Int) : valV (penKvs c a l) kLeft = some (.int l) := by
  unfold penKvs
  rw [valV_neg n_cl, valV_neg n_al]
  exact valV_pos rfl
theorem put_at (c : Addr) (a l x : Int) : putK (penKvs c a l) kAt (.int x) = penKvs c x l := by
  have h : ((penKvs c a l).any fun kv => decide (kv.1 = kAt)) = true := by
    rw [valV_any, pen_at]; rfl
  unfold putK
  rw [if_pos h]
  show [if kCells = kAt then (kCells, V.int x) else (kCells, V.ref c), if kAt = kAt then (kAt, V.int x) else (kAt, V.int a), if kLeft = kAt then (kLeft, V.int x) else (kLeft, V.int l)] = _
  rw [if_neg n_ca, if_pos rfl, if_neg (Ne.symm n_al)]
  rfl
theorem put_left (c : Addr) (a l x : Int) : putK (penKvs c a l) kLeft (.int x) = penKvs c a x := by
  have h : ((penKvs c a l).any fun kv => decide (kv.1 = kLeft)) = true := by
    rw [valV_any, pen_left]; rfl
  unfold putK
  rw [if_pos h]
  show [if kCells = kLeft then (kCells, V.int x) else (kCells, V.ref c), if kAt = kLeft then (kAt, V.int x) else (kAt, V.int a), if kLeft = kLeft then (kLeft, V.int x) else (kLeft, V.int l)] = _
  rw [if_neg n_cl, if_neg n_al, if_pos rfl]
  rfl
/-- a pen at p: n bounds the places that were read -/
def PenAt (H : Hp) (p c : Addr) (n : Nat) : Prop := ∃ (ns : List Int) (a l : Int), H p = some (.dK (penKvs c a l)) ∧ H c = some (.lst (ns.map V.int)) ∧ ns.length ≤ 63 ∧ 0 ≤ a ∧ a ≤ n
theorem PenAt.ne {H : Hp} {p c : Addr} {n : Nat} (h : PenAt H p c n) {b : Addr} {xs : List V} (e : H b = some (.lst xs)) : b ≠ p := by
  obtain ⟨ns, a, l, h1, _⟩ := h
  exact ne_of e h1 (by intro z; cases z)
theorem PenAt.keep {H H' : Hp} {p c : Addr} {n : Nat} (h : PenAt H p c n) (s : Same H H') : PenAt H' p c n := by
  obtain ⟨ns, a, l, h1, h2, r⟩ := h
  exact ⟨ns, a, l, s _ _ h1, s _ _ h2, r⟩
/-- a store elsewhere -/
theorem PenAt.put {H : Hp} {p c : Addr} {n : Nat} (h : PenAt H p c n) {d : Addr} {o : HO} (np : d ≠ p) (nc : d ≠ c) : PenAt (upd H d o) p c n := by
  obtain ⟨ns, a, l, h1, h2, r⟩ := h
  exact ⟨ns, a, l, by rw [upd_ne (Ne.symm np)]; exact h1, by rw [upd_ne (Ne.symm nc)]; exact h2, r⟩
theorem PenAt.apart {H : Hp} {p c : Addr} {n : Nat} (h : PenAt H p c n) {d : Addr} (e : H d = none) : d ≠ p ∧ d ≠ c := by
  obtain ⟨ns, a, l, h1, h2, r⟩ := h
  exact ⟨fun z => (by rw [z, h1] at e; cases e), fun z => (by rw [z, h2] at e; cases e)⟩
theorem PenAt.mono {H : Hp} {p c : Addr} {n m : Nat} (h : PenAt H p c n) (s : n ≤ m) : PenAt H p c m := by
  obtain ⟨ns, a, l, h1, h2, h3, h4, h5⟩ := h
  exact ⟨ns, a, l, h1, h2, h3, h4, by omega⟩
def spPen (K : PySem.W.Frag) : Sp := fun vs H Q _ => ∃ (s : Addr) (ns : List Int), vs = [.ref s] ∧ SqL K H s (ns.map V.int) ∧ ns.length ≤ 63 ∧ ∀ p c H', H p = none → Same H H' → PenAt H' p c 0 → Q (.ref p) H'
def spDraw : Sp := fun vs H Q _ => ∃ (p c : Addr) (many : Int) (n : Nat), vs = [.ref p, .int many] ∧ PenAt H p c n ∧ n ≤ 1000000 ∧ 0 < many ∧ many < 1073741824 ∧
  ∀ (r : Int) H', 0 ≤ r → r < many → PenAt H' p c (n + 1) → SameBut p H H' → Q (.int r) H'
def spPick : Sp := fun vs H Q _ => ∃ (p c q : Addr) (xs : List V) (n : Nat), vs = [.ref p, .ref q] ∧ PenAt H p c n ∧ n ≤ 1000000 ∧ H q = some (.lst xs) ∧ 0 < xs.length ∧ xs.length ≤ 1000000 ∧
  ∀ (v : V) (i : Nat) H', xs[i]? = some v → PenAt H' p c (n + 1) → SameBut p H H' → Q v H'
structure TxtP (K : PySem.W.Frag) (mg : Str → Option Value) (f1 f2 f3 : Addr) (d1 d2 d3 : FuncData) : Prop where
  D__law_pen : DefT K mg "_law_pen" "_law_pen" s__law_pen ["script"] f1 d1
  D__law_draw : DefT K mg "_law_draw" "_law_draw" s__law_draw ["pen", "many"] f2 d2
  D__law_pick : DefT K mg "_law_pick" "_law_pick" s__law_pick ["pen", "items"] f3 d3
  n_list : mg "list" = none
  n_int : mg "int" = none
  n_len : mg "len" = none
local macro_rules | `(tactic| walk_at "g") => `(tactic| first | refine ⟨_, _, rfl, rfl, ?_⟩ | refine ⟨_, rfl, ?_⟩ | refine ⟨rfl, ?_⟩)
theorem cut63 (ns : List Int) : ∃ ms : List Int, cutV (ns.map V.int) none (some 63) = ms.map V.int ∧ ms.length ≤ ns.length := by
  refine ⟨(ns.drop (HT.sIx (ns.map V.int).length 0 none)).take (HT.sIx (ns.map V.int).length (ns.map V.int).length (some 63) - HT.sIx (ns.map V.int).length 0 none), ?_, ?_⟩
  · unfold cutV
    rw [List.map_take, List.map_drop]
  · rw [List.length_take, List.length_drop]; omega
section
variable {P : Program} {w : World} {K : PySem.W.Frag} {mg : Str → Option Value} {base : Heap} {f1 f2 f3 : Addr} {d1 d2 d3 : FuncData}
theorem sc_pen : FnScope ["script"] ["script"] (defScope s__law_pen) := ⟨rfl, rfl, rfl, by decide +kernel, rfl, by decide +kernel, by decide +kernel⟩
theorem ok_pen (T : TxtP K mg f1 f2 f3 d1 d2 d3) : FnOk P w K mg base CX0 1 f1 d1 ["script"] (spPen K) := by
  have sc := sc_pen
  refine T.D__law_pen.F.ok sc (fun vs H Q E h => ?_) (fun cdv A outer s H vs Q E hr h => ?_)
  · obtain ⟨_, _, rfl, _⟩ := h; rfl
  · obtain ⟨a, ns, rfl, hs, hl, k⟩ := h
    have hu := hu_of hr
    refine ⟨_, (pss_one (ps_ret (pe_disp (pps_cons pe_str (pe_callTy call_list_of (by rfl) T.n_list (by decide +kernel) (pa_cons (pe_slice sl_list (pv 0) po_none (po_some pe_int)) pa_nil)) (pps_cons pe_str pe_int (pps_cons pe_str pe_int pps_nil))) (by rfl) (by rfl) (fun z => by cases z) (by decide)))), ?_⟩
    intro p hp
    have s1 : Same H (upd H p (.dK [])) := Same.upd hp
    obtain ⟨ms, em, lm⟩ := cut63 ns
    refine ⟨_, rfl, _, rfl, a, _, rfl, s1.seq hs, fun q hq => ?_⟩
    rw [em]
    refine ⟨q, ms.map V.int, rfl, .inl (SqL.of upd_same), fun l hl2 => ?_⟩
    have npq : p ≠ q := ne_of_none upd_same hq
    have npl : p ≠ l := ne_of_none (by rw [upd_ne npq]; exact upd_same) hl2
    refine ⟨by rw [upd_ne npl, upd_ne npq, upd_same], penKvs l 0 0, rfl, (by show 3 ≤ 15; decide), ?_⟩
    refine k p l _ hp (fun b o e => ?_) ⟨ms, 0, 0, ?_, ?_, by omega, by omega, by omega⟩
    · have e1 : upd H p (.dK []) b = some o := s1 b o e
      have e2 : upd (upd H p (.dK [])) q (.lst (ms.map V.int)) b = some o := Same.upd hq b o e1
      rw [upd_ne (ne_of_none e hp)]
      exact Same.upd hl2 b o e2
    · rw [upd_same]
      rfl
    · rw [upd_ne npl.symm, upd_same]
theorem dg_left {H : Hp} {p c : Addr} {a l : Int} (h : H p = some (.dK (penKvs c a l))) : DGet H p (.str "left") (some (.int l)) := by
  have q := DGet.k (k := kLeft) h
  rw [pen_left] at q
  exact q
theorem dg_at {H : Hp} {p c : Addr} {a l : Int} (h : H p = some (.dK (penKvs c a l))) : DGet H p (.str "at") (some (.int a)) := by
  have q := DGet.k (k := kAt) h
  rw [pen_at] at q
  exact q
theorem dg_cells {H : Hp} {p c : Addr} {a l : Int} (h : H p = some (.dK (penKvs c a l))) : DGet H p (.str "cells") (some (.ref c)) := by
  have q := DGet.k (k := kCells) h
  rw [pen_cells] at q
  exact q
theorem dp_left {H : Hp} {p c : Addr} {a l x : Int} (h : H p = some (.dK (penKvs c a l))) : DPut H p (.str "left") (.int x) (upd H p (.dK (penKvs c a x))) := by
  have q := DPut.k (k := kLeft) (v := .int x) h (by show 3 < sizeLine; decide)
  rw [put_left] at q
  exact q
theorem dp_at {H : Hp} {p c : Addr} {a l x : Int} (h : H p = some (.dK (penKvs c a l))) : DPut H p (.str "at") (.int x) (upd H p (.dK (penKvs c x l))) := by
  have q := DPut.k (k := kAt) (v := .int x) h (by show 3 < sizeLine; decide)
  rw [put_at] at q
  exact q
theorem dpInts (K : PySem.W.Frag) (H : Hp) : ∀ ns : List Int, DpAll K H (ns.map V.int) (ns.map PyData.int)
  | [] => .nil
  | n :: ns => .cons (.int n) (dpInts K H ns)
/-- data of a small depth -/
def Sh (n : Nat) (d : PyData) : Prop := d.canLay0 = true ∧ d.depth ≤ n
theorem Sh.int {n : Nat} (i : Int) : Sh n (.int i) := ⟨by simp [PyData.canLay0], by rw [PyData.depth]; omega⟩
theorem Sh.bl {n : Nat} (b : Bool) : Sh n (.bool b) := ⟨by simp [PyData.canLay0], by rw [PyData.depth]; omega⟩
theorem Sh.str {n : Nat} {x : Str} (h : PyData.strOk x = true) : Sh n (.str x) := ⟨by simp [PyData.canLay0, h], by rw [PyData.depth]; omega⟩
theorem Sh.all {n : Nat} : ∀ {xs : List PyData}, (∀ x ∈ xs, Sh n x) → PyData.canLayAll0 xs = true ∧ PyData.depthAll xs ≤ n
  | [], _ => ⟨by simp [PyData.canLayAll0], by rw [PyData.depthAll]; omega⟩
  | x :: xs, h => by
    obtain ⟨a, b⟩ := Sh.all (xs := xs) fun y hy => h y (List.mem_cons_of_mem _ hy)
    obtain ⟨c, d⟩ := h x List.mem_cons_self
    refine ⟨by rw [PyData.canLayAll0, c, a]; rfl, ?_⟩
    rw [PyData.depthAll]
    exact Nat.max_le.mpr ⟨d, b⟩
theorem Sh.list {n : Nat} {xs : List PyData} (h : ∀ x ∈ xs, Sh n x) : Sh (n + 1) (.list xs) := by
  obtain ⟨a, b⟩ := Sh.all h
  exact ⟨by rw [PyData.canLay0]; exact a, by rw [PyData.depth]; omega⟩
theorem Sh.tup {n : Nat} {xs : List PyData} (h : ∀ x ∈ xs, Sh n x) : Sh (n + 1) (.tuple xs) := by
  obtain ⟨a, b⟩ := Sh.all h
  exact ⟨by rw [PyData.canLay0]; exact a, by rw [PyData.depth]; omega⟩
theorem Sh.ok {n : Nat} {d : PyData} (h : Sh n d) (hn : n ≤ 64) : SeqAt.shaped d = true := by
  unfold SeqAt.shaped
  rw [h.1, decide_eq_true (Nat.le_trans h.2 hn)]
  rfl
theorem Sh.refl {n : Nat} {d : PyData} (h : Sh n d) : PyData.eqv d d = true := PySem.SeqAt.eqv_refl d h.1
theorem ifT {c A B : Prop} [Decidable c] (h : c) (a : A) : if decide c = true then A else B := by rw [if_pos (decide_eq_true h)]; exact a
theorem ifF {c A B : Prop} [Decidable c] (h : ¬ c) (b : B) : if decide c = true then A else B := by rw [if_neg (by simpa using h)]; exact b
theorem ifTn {c A B : Prop} [Decidable c] (h : ¬ c) (a : A) : if (!decide c) = true then A else B := by rw [if_pos (by simpa using h)]; exact a
theorem ifFn {c A B : Prop} [Decidable c] (h : c) (b : B) : if (!decide c) = true then A else B := by rw [if_neg (by simpa using h)]; exact b
theorem shInts (ns : List Int) : SeqAt.shaped (.list (ns.map PyData.int)) = true := (Sh.list (n := 0) fun x hx => by
  obtain ⟨i, _, rfl⟩ := List.mem_map.mp hx
  exact Sh.int i).ok (by decide)
theorem eqv_ints_nil (ns : List Int) : PyData.eqv (.list (ns.map PyData.int)) (.list []) = decide (ns = []) := by
  cases ns with
  | nil => rw [List.map_nil, PyData.eqv, PyData.eqvAll]; rfl
  | cons a r => rw [List.map_cons, PyData.eqv, PyData.eqvAll]; rfl
theorem sc_draw : FnScope ["pen", "many", "digit", "at", "cell", "mixed"] ["pen", "many"] (defScope s__law_draw) := ⟨rfl, rfl, rfl, by decide +kernel, rfl, by decide +kernel, by decide +kernel⟩
theorem ok_draw (T : TxtP K mg f1 f2 f3 d1 d2 d3) : FnOk P w K mg base CX0 1 f2 d2 ["pen", "many"] spDraw := by
  have sc := sc_draw
  refine T.D__law_draw.F.ok sc (fun vs H Q E h => ?_) (fun cdv A outer s H vs Q E hr h => ?_)
  · obtain ⟨_, _, _, _, rfl, _⟩ := h; rfl
  · obtain ⟨p, c, many, n, rfl, ⟨ns, a, l, h1, h2, h3, h4, h5⟩, hn, m0, m1, k⟩ := h
    have hu := hu_of hr
    have ncp : c ≠ p := ne_of h2 h1 (by intro z; cases z)
    refine ⟨_, (pss_cons (ps_if (pt_cmpR op_ge (pe_dget hu (pv 0) pe_str (fun _ _ => rfl)) (pv 1) (nomark _)) (pss_cons (ps_set (i := 2) sc.nd rfl (Or.inl rfl) (pe_op op_mod (pe_callTy call_int1 (by rfl) T.n_int (by decide +kernel) (pa_cons (pe_dget hu (pv 0) pe_str (fun _ _ => rfl)) pa_nil)) (pv 1)))
      (pss_cons (ps_dput hu (pv 0) pe_str (pe_op op_fdiv (pe_dget hu (pv 0) pe_str (fun _ _ => rfl)) (pv 1)) rfl)
      (pss_one (ps_ret (pv 2)))))
        pss_nil)
      (pss_cons (ps_set (i := 3) sc.nd rfl (Or.inl rfl) (pe_dget hu (pv 0) pe_str (fun _ _ => rfl)))
      (pss_cons (ps_dput hu (pv 0) pe_str (pe_op op_add (pv 3) pe_int) rfl)
      (pss_cons (ps_set (i := 4) sc.nd rfl (Or.inl rfl) (pe_op op_add (pe_op op_mul pe_int (pv 3)) pe_int))
      (C8.pss_cut (ps_if (pt_cmpR (op_neD hr.units) (pe_dget hu (pv 0) pe_str (fun _ _ => rfl)) (pe_lst pa_nil) (nomark _)) (pss_one (ps_set (i := 4) sc.nd rfl (Or.inl rfl) (pe_ix ix_list (pe_dget hu (pv 0) pe_str (fun _ _ => rfl)) (pe_op op_mod (pe_callTy call_int1 (by rfl) T.n_int (by decide +kernel) (pa_cons (pv 3) pa_nil)) (pe_callB call_len (by rfl) T.n_len (by decide +kernel) (pa_cons (pe_dget hu (pv 0) pe_str (fun _ _ => rfl)) pa_nil))) (fun _ _ => rfl))))
        pss_nil)
      (pss_cons (ps_if (PW.pt (pw_and (pt_cmpR op_lt (pv 3) (pe_callB call_len (by rfl) T.n_len (by decide +kernel) (pa_cons (pe_dget hu (pv 0) pe_str (fun _ _ => rfl)) pa_nil)) (nomark _)) (pw_and1 (pt_cmpR op_ge (pv 4) (pe_op op_pow pe_int pe_int) (nomark _))))) (pss_cons (ps_dput hu (pv 0) pe_str (pe_op op_fdiv (pe_op op_sub (pv 4) (pe_op op_pow pe_int pe_int)) (pv 1)) rfl)
      (pss_one (ps_ret (pe_op op_mod (pe_callTy call_int1 (by rfl) T.n_int (by decide +kernel) (pa_cons (pe_op op_sub (pv 4) (pe_op op_pow pe_int pe_int)) pa_nil)) (pv 1)))))
        pss_nil)
      (pss_cons (ps_set (i := 5) sc.nd rfl (Or.inl rfl) (pe_op op_add (pe_op op_add (pe_op op_add (pe_op op_mul (pe_op op_mod (pe_callTy call_int1 (by rfl) T.n_int (by decide +kernel) (pa_cons (pv 4) pa_nil)) pe_int) pe_int) (pe_op op_mul (pe_op op_mul pe_int (pv 3)) (pv 3))) (pe_op op_mul pe_int (pv 3))) pe_int))
      (pss_cons (ps_set (i := 5) sc.nd rfl (Or.inl rfl) (pe_op op_mod (pe_callTy call_int1 (by rfl) T.n_int (by decide +kernel) (pa_cons (pv 5) pa_nil)) pe_int))
      (pss_cons (ps_set (i := 5) sc.nd rfl (Or.inl rfl) (pe_op op_mod (pe_callTy call_int1 (by rfl) T.n_int (by decide +kernel) (pa_cons (pe_op op_mul (pv 5) (pe_op op_add (pv 5) pe_int)) pa_nil)) pe_int))
      (pss_one (ps_ret (pe_op op_mod (pe_callTy call_int1 (by rfl) T.n_int (by decide +kernel) (pa_cons (pe_op op_fdiv (pe_op op_mod (pe_callTy call_int1 (by rfl) T.n_int (by decide +kernel) (pa_cons (pe_op op_mul (pv 5) (pv 5)) pa_nil)) pe_int) pe_int) pa_nil)) (pv 1))))))))))))), ?_⟩
    refine ⟨_, rfl, p, .int l, rfl, dg_left h1, _, rfl, _, _, rfl, rfl, _, rfl, ?_⟩
    by_cases c1 : many ≤ l
    · refine ifT c1 ?_
      refine ⟨_, rfl, p, .int l, rfl, dg_left h1, .inl ⟨_, rfl, _, rfl, _, _, rfl, rfl, m0, ?_⟩⟩
      refine ⟨_, rfl, p, .int l, rfl, dg_left h1, _, rfl, _, _, rfl, rfl, ⟨m0, m1⟩, _, rfl, p, _, rfl, dp_left h1, ?_⟩
      refine ⟨_, rfl, ?_⟩
      refine k _ _ (Int.emod_nonneg _ (by omega)) (Int.emod_lt_of_pos _ m0) ⟨ns, a, _, upd_same, by rw [upd_ne ncp]; exact h2, h3, h4, by omega⟩ .upd
    · refine ifF c1 ?_
      refine ⟨_, rfl, p, .int a, rfl, dg_at h1, ?_⟩
      refine ⟨_, rfl, _, _, rfl, rfl, _, rfl, p, _, rfl, dp_at h1, ?_⟩
      have g1 : upd H p (.dK (penKvs c (a + 1) l)) p = some (.dK (penKvs c (a + 1) l)) := upd_same
      have g2 : upd H p (.dK (penKvs c (a + 1) l)) c = some (.lst (ns.map V.int)) := by rw [upd_ne ncp]; exact h2
      have g3 : SameBut p H (upd H p (.dK (penKvs c (a + 1) l))) := .upd
      generalize upd H p (.dK (penKvs c (a + 1) l)) = H1 at g1 g2 g3 ⊢
      refine ⟨_, rfl, _, _, rfl, rfl, .inl ⟨by decide, by decide⟩, _, _, rfl, rfl, ?_⟩
      -- if pen['cells'] != []
      refine ⟨fun σ' H' => ∃ cell : Int, σ' = [some (.ref p), some (.int many), none, some (.int a), some (.int cell), none] ∧ Same H1 H', ?_, ?_⟩
      · refine ⟨_, rfl, p, .ref c, rfl, dg_cells g1, (by decide), fun lz hz => ?_⟩
        refine ⟨.list (ns.map PyData.int), .list [], .lst (SqL.of (Same.upd hz _ _ g2)) (dpInts _ _ _), .lst (SqL.of upd_same) .nil, shInts ns, shInts [], _, rfl, ?_⟩
        rw [eqv_ints_nil]
        by_cases c2 : ns = []
        · refine ifFn c2 ?_
          exact ⟨_, rfl, Same.upd hz⟩
        · refine ifTn c2 ?_
          have hpos : 0 < ns.length := List.length_pos_iff.mpr c2
          have hsu := Same.upd (o := .lst ([] : List V)) hz
          have e2 := hsu _ _ g2
          have e1 := hsu _ _ g1
          have hm0 : 0 ≤ a % (ns.length : Int) := Int.emod_nonneg _ (by omega)
          have hm1 : a % (ns.length : Int) < ns.length := Int.emod_lt_of_pos _ (by omega)
          obtain ⟨x, hx⟩ : ∃ x, ns[(a % (ns.length : Int)).toNat]? = some x := ⟨_, List.getElem?_eq_getElem (by omega)⟩
          refine ⟨_, rfl, p, .ref c, rfl, dg_cells e1, _, rfl, .inl ⟨_, rfl, ?_⟩⟩
          refine ⟨_, rfl, p, .ref c, rfl, dg_cells e1, .ref c, ns.length, rfl, .inl ⟨_, SqL.of e2, by rw [List.length_map]⟩, _, _, rfl, rfl, by omega, ?_⟩
          refine ⟨c, ns.map V.int, _, .int x, rfl, rfl, SqL.of e2, ?_, ?_⟩
          · have q := atI_nat (xs := ns.map V.int) (j := (a % (ns.length : Int)).toNat) (v := .int x) (by rw [List.getElem?_map, hx]; rfl)
            rw [Int.toNat_of_nonneg hm0] at q
            exact q
          · exact ⟨x, rfl, hsu⟩
      · rintro σ' H' ⟨cell, rfl, s1⟩
        have e1 := s1 _ _ g1
        have e2 := s1 _ _ g2
        refine ⟨_, rfl, _, rfl, p, .ref c, rfl, dg_cells e1, .ref c, ns.length, rfl, .inl ⟨_, SqL.of e2, by rw [List.length_map]⟩, _, _, rfl, rfl, _, rfl, ?_⟩
        have P18 : CPow 10 18 := ⟨by decide, by decide, by decide⟩
        have fin : ∀ (r : Int) (H2 : Hp) (l2 : Int), 0 ≤ r → r < many → H2 = upd H' p (.dK (penKvs c (a + 1) l2)) ∨ H2 = H' → Q (.int r) H2 := by
          intro r H2 l2 r0 r1 e
          have g3' : SameBut p H H' := g3.trans (.of s1)
          rcases e with rfl | rfl
          · exact k r _ r0 r1 ⟨ns, a + 1, l2, upd_same, by rw [upd_ne ncp]; exact e2, h3, by omega, by omega⟩ (g3'.trans .upd)
          · exact k r _ r0 r1 ⟨ns, a + 1, l, e1, e2, h3, by omega, by omega⟩ g3'
        have last : (tSeq (tAsg (tOp (rI0 fun i j => .int (i + j)) (tOp (rI0 fun i j => .int (i + j)) (tOp (rI0 fun i j => .int (i + j)) (tOp (rI CMul fun i j => .int (i * j)) (tOp (rI (fun _ j => 0 < j) fun i j => .int (i % j)) (tCB (fun xs H Q => (∃ i, xs = [V.int i] ∧ Q (.int i) H) ∨ ∃ k, xs = [V.bl k] ∧ Q (.int (if k then 1 else 0)) H) (tCons (tVar 4) tNil)) (tC (.int 2147483587))) (tC (.int 48271))) (tOp (rI CMul fun i j => .int (i * j)) (tOp (rI CMul fun i j => .int (i * j)) (tC (.int 40014)) (tVar 3)) (tVar 3))) (tOp (rI CMul fun i j => .int (i * j)) (tC (.int 59)) (tVar 3))) (tC (.int 17))) (gName 5))
            (tSeq (tAsg (tOp (rI (fun _ j => 0 < j) fun i j => .int (i % j)) (tCB (fun xs H Q => (∃ i, xs = [V.int i] ∧ Q (.int i) H) ∨ ∃ k, xs = [V.bl k] ∧ Q (.int (if k then 1 else 0)) H) (tCons (tVar 5) tNil)) (tC (.int 2147483629))) (gName 5))
            (tSeq (tAsg (tOp (rI (fun _ j => 0 < j) fun i j => .int (i % j)) (tCB (fun xs H Q => (∃ i, xs = [V.int i] ∧ Q (.int i) H) ∨ ∃ k, xs = [V.bl k] ∧ Q (.int (if k then 1 else 0)) H) (tCons (tOp (rI CMul fun i j => .int (i * j)) (tVar 5) (tOp (rI0 fun i j => .int (i + j)) (tVar 5) (tC (.int 69621)))) tNil)) (tC (.int 2147483549))) (gName 5))
            (tRet (tOp (rI (fun _ j => 0 < j) fun i j => .int (i % j)) (tCB (fun xs H Q => (∃ i, xs = [V.int i] ∧ Q (.int i) H) ∨ ∃ k, xs = [V.bl k] ∧ Q (.int (if k then 1 else 0)) H) (tCons (tOp (rI CDiv fun i j => .int (i / j)) (tOp (rI (fun _ j => 0 < j) fun i j => .int (i % j)) (tCB (fun xs H Q => (∃ i, xs = [V.int i] ∧ Q (.int i) H) ∨ ∃ k, xs = [V.bl k] ∧ Q (.int (if k then 1 else 0)) H) (tCons (tOp (rI CMul fun i j => .int (i * j)) (tVar 5) (tVar 5)) tNil)) (tC (.int 2147483579))) (tC (.int 32))) tNil)) (tVar 1))))))
            { nx := fun _ H' => Q .non H', rt := Q } [some (.ref p), some (.int many), none, some (.int a), some (.int cell), none] H' := by
          refine ⟨_, rfl, .inl ⟨_, rfl, _, _, rfl, rfl, (show (0 : Int) < 2147483587 by decide), _, _, rfl, rfl, .inr ⟨by decide, by decide⟩, _, rfl, _, _, rfl, rfl, .inl ⟨by decide, by decide⟩, _, rfl, _, _, rfl, rfl, .inr ⟨by omega, by omega⟩, _, _, rfl, rfl, _, rfl, _, _, rfl, rfl, .inl ⟨by decide, by decide⟩, _, _, rfl, rfl, _, _, rfl, rfl, ?_⟩⟩
          refine ⟨_, rfl, .inl ⟨_, rfl, _, _, rfl, rfl, (show (0 : Int) < 2147483629 by decide), ?_⟩⟩
          have x0 := Int.emod_nonneg (cell % 2147483587 * 48271 + 40014 * a * a + 59 * a + 17) (show (2147483629 : Int) ≠ 0 by decide)
          have x1 := Int.emod_lt_of_pos (cell % 2147483587 * 48271 + 40014 * a * a + 59 * a + 17) (show (0 : Int) < 2147483629 by decide)
          generalize (cell % 2147483587 * 48271 + 40014 * a * a + 59 * a + 17) % 2147483629 = x at x0 x1 ⊢
          refine ⟨_, rfl, _, rfl, _, _, rfl, rfl, _, _, rfl, rfl, .inl ⟨by omega, by omega⟩, .inl ⟨_, rfl, _, _, rfl, rfl, (show (0 : Int) < 2147483549 by decide), ?_⟩⟩
          have y0 := Int.emod_nonneg (x * (x + 69621)) (show (2147483549 : Int) ≠ 0 by decide)
          have y1 := Int.emod_lt_of_pos (x * (x + 69621)) (show (0 : Int) < 2147483549 by decide)
          generalize (x * (x + 69621)) % 2147483549 = y at y0 y1 ⊢
          refine ⟨_, rfl, _, rfl, _, _, rfl, rfl, .inl ⟨by omega, by omega⟩, .inl ⟨_, rfl, _, _, rfl, rfl, (show (0 : Int) < 2147483579 by decide), _, _, rfl, rfl, ⟨by decide, by decide⟩, .inl ⟨_, rfl, _, rfl, _, _, rfl, rfl, m0, ?_⟩⟩⟩
          exact fin _ _ l (Int.emod_nonneg _ (by omega)) (Int.emod_lt_of_pos _ m0) (.inr rfl)
        by_cases c3 : a < ns.length
        · refine ifT c3 ?_
          refine ⟨_, rfl, _, _, rfl, rfl, P18, _, _, rfl, rfl, _, rfl, ?_⟩
          by_cases c4 : (10 : Int) ^ (18 : Int).toNat ≤ cell
          · refine ifT c4 ?_
            refine ⟨_, rfl, _, _, rfl, rfl, P18, _, _, rfl, rfl, _, rfl, _, _, rfl, rfl, ⟨m0, m1⟩, _, rfl, p, _, rfl, dp_left e1, ?_⟩
            refine ⟨_, rfl, _, _, rfl, rfl, P18, _, _, rfl, rfl, .inl ⟨_, rfl, _, rfl, _, _, rfl, rfl, m0, ?_⟩⟩
            exact fin _ _ _ (Int.emod_nonneg _ (by omega)) (Int.emod_lt_of_pos _ m0) (.inl rfl)
          · refine ifF c4 ?_
            exact last
        · refine ifF c3 ?_
          exact last
theorem sc_pick : FnScope ["pen", "items"] ["pen", "items"] (defScope s__law_pick) := ⟨rfl, rfl, rfl, by decide +kernel, rfl, by decide +kernel, by decide +kernel⟩
theorem ok_pick (T : TxtP K mg f1 f2 f3 d1 d2 d3) : FnOk P w K mg base CX0 2 f3 d3 ["pen", "items"] spPick := by
  have sc := sc_pick
  have G__law_draw : FnOk P w K mg base CX0 1 f2 d2 ["pen", "many"] spDraw := ok_draw T
  refine T.D__law_pick.F.ok sc (fun vs H Q E h => ?_) (fun cdv A outer s H vs Q E hr h => ?_)
  · obtain ⟨_, _, _, _, _, rfl, _⟩ := h; rfl
  · obtain ⟨p, c, q, xs, n, rfl, hp, hn, hq, x0, x1, k⟩ := h
    refine ⟨_, (pss_one (ps_ret (pe_ix ix_list (pv 1) (pe_call G__law_draw (hr.mono (by decide)) rfl T.D__law_draw.g T.D__law_draw.F.kp T.D__law_draw.b .nil pass0 (pa_cons (pv 0) (pa_cons (pe_callB call_len (by rfl) T.n_len (by decide +kernel) (pa_cons (pv 1) pa_nil)) pa_nil))) (fun _ _ => rfl)))), ?_⟩
    refine ⟨_, rfl, _, rfl, _, rfl, .ref q, xs.length, rfl, .inl ⟨_, SqL.of hq, rfl⟩, p, c, _, n, rfl, hp, hn, by omega, by omega, fun r H' r0 r1 hp' sb => ?_⟩
    obtain ⟨x, hx⟩ : ∃ x, xs[r.toNat]? = some x := ⟨_, List.getElem?_eq_getElem (by omega)⟩
    refine ⟨q, xs, r, x, rfl, rfl, SqL.of (sb _ _ hq (hp.ne hq)), ?_, k x _ H' hx hp' sb⟩
    have z := atI_nat hx
    rw [Int.toNat_of_nonneg r0] at z
    exact z
end
end Kx

namespace Own
open PySem L2 PyProof.Rows PySem.Froz
/-! ### sets of texts, as they grow -/
/-- the table stands in its order, and is told -/
def Tidy (w : World) (D : SD) : Prop := Ris D.2.2.place.toList ∧ (w.params.followText "set-order" = true ∨ D.2.2.led = true)
theorem tidy_tail {w : World} {ep : Nat} {es : Array (Int × Value)} {t : SetTable} {b : Bool} (h : Tidy w (es, ep, t)) : Tidy w (tailTx ep es t b) := by
  unfold tailTx
  split
  · exact ⟨relayAll_ris t es _, h.2.imp id fun z => (relayAll_led t es _).trans z⟩
  · exact h
theorem tidy_add {w : World} {k : Int} {v : Value} {D : SD} (h : Tidy w D) : Tidy w (addTx k v D) := by
  refine tidy_tail ?_
  have r := layNew_ris D.2.2 D.1 k v h.1
  have l := layNew_led D.2.2 D.1 k v
  split
  · exact ⟨r, h.2.imp id fun z => l.trans z⟩
  · exact ⟨r, h.2.imp id fun z => l.trans z⟩
/-- the set at a holds the texts l, each once -/
def SetS (P : Program) (w : World) (h : Heap) (a : Addr) (l : List Str) : Prop := ∃ D : SD, h.get? a = some (sObj "set" D) ∧ Tidy w D ∧ TxOk P w D l ∧ l.Nodup
section
variable {P : Program} {w : World} {A : Around} {E : Value → Shared → Prop} {s : Shared} {a : Addr} {l : List Str} {k : Str} {u : Tok}
theorem SetS.at {h h' : Heap} (R : SetS P w h a l) (e : ∀ o, h.get? a = some o → h'.get? a = some o) : SetS P w h' a l := by
  obtain ⟨D, q, r⟩ := R
  exact ⟨D, e _ q, r⟩
/-- a text that is there already -/
theorem stay_s {D : SD} {Q : Bool → Shared → Prop} (ho : s.heap.get? a = some (sObj "set" D)) (F : TxOk P w D l) (hb : l.length < scanBound) (hk : k ∈ l) (q : Q false s) : wpAny (model P w) A (setAddHashed a (.str k u) (hashStr w k)) Q E s := by
  obtain ⟨es, ep, t⟩ := D
  have sz : es.size < scanBound := by rw [show es.size = l.length from F.sz]; exact hb
  unfold setAddHashed setAddHashedIn
  refine wpAny_holding (wpAny_bind (wpAny_setState_of ho rfl F.fit ?_))
  dsimp only
  rw [byScan_of (knd := strKind P w) rfl sz F.el]
  simp only [↓reduceIte]
  unfold setAddByScan
  refine wpAny_bind (wpAny_bind (wpAny_rule (wpAny_bind (wpAny_setScan_of (knd := strKind P w) (k := k) (is_str k u) ho rfl F.fit F.el ?_))))
  obtain ⟨e, he, hq⟩ := (F.mem k).mp hk
  cases c : List.findIdx? (fun e => (strKind P w).is k e.2) es.toList with
  | some j => exact wpAny_pure (wpAny_pure q)
  | none =>
    have z := List.findIdx?_eq_none_iff.mp c e he
    rw [hq] at z
    cases z
/-- one more text -/
theorem put_s {Q : Bool → Shared → Prop} (R : SetS P w s.heap a l) (hb : l.length + 1 < scanBound) (q : ∀ h' l' b, Heap.SameBut a s.heap h' → SetS P w h' a l' → (∀ x, x ∈ l' ↔ x ∈ l ∨ x = k) → l'.length ≤ l.length + 1 → Q b { s with heap := h' }) :
    wpAny (model P w) A (setAddHashed a (.str k u) (hashStr w k)) Q E s := by
  obtain ⟨D, ho, td, F, nd⟩ := R
  by_cases c : k ∈ l
  · exact stay_s ho F (by omega) c (q s.heap l false (.refl _ _) ⟨D, ho, td, F, nd⟩ (fun x => ⟨.inl, fun z => z.elim id fun e => e ▸ c⟩) (by omega))
  · refine add_x ho F c hb (q _ (k :: l) true (Heap.SameBut.update _ _ _) ⟨_, get_upd _ ho rfl, tidy_add td, add_ok u F, List.nodup_cons.mpr ⟨c, nd⟩⟩ (fun x => ?_) (Nat.le_refl _))
    rw [List.mem_cons]
    exact Or.comm
/-- set.update's loop over a walk of texts -/
theorem fill_s {I : Addr} {fp wr : List Addr} {n : Nat} {St : Nat → Heap → Prop} {Pv : Nat → Value → Prop} {R : Result → Shared → Prop} (W : Walks P w A.in1 I fp wr n Pv St) (ha : a ∉ fp) (xs : List Str) (hn : n = xs.length) (hb : n + 1 < scanBound) (hv : ∀ i v, Pv i v → ∃ x t, xs[i]? = some x ∧ v = .str x t)
    (fin : ∀ (h' : Heap) tk l', (∀ b o, b ≠ a → b ∉ wr → s.heap.get? b = some o → h'.get? b = some o) → SetS P w h' a l' → (∀ x, x ∈ l' ↔ x ∈ xs) → l'.length ≤ xs.length → R (.ok (.ret .none)) { s with heap := h', toks := tk }) :
    ∀ (m i : Nat) (h1 : Heap) (tk : Nat), i + m = n → St i h1 → (∀ b o, b ≠ a → b ∉ wr → s.heap.get? b = some o → h1.get? b = some o) → (∃ l, SetS P w h1 a l ∧ (∀ x, x ∈ l ↔ x ∈ xs.take i) ∧ l.length ≤ i) →
      codeAny (model P w) A (.builtin "set.update.loop" ⟨[.ref a, .ref I], []⟩) R { s with heap := h1, toks := tk } := by
  have hw : a ∉ wr := fun z => ha (W.sub _ z)
  intro m
  induction m with
  | zero =>
    intro i h1 tk e st k1 ⟨l, hs, hm, hl⟩
    have e' : i = n := e
    subst e'
    refine codeAny_builtin F.entry_set_update_loop ?_
    rw [Around.under_plainId F.plain_set_update_loop _]
    refine wpAny_bind (W.done { s with heap := h1, toks := tk } _ _ st fun h2 t2 k2 => wpAny_pure (fin h2 t2 l (fun b o b1 b2 e => k2 b o b2 (k1 b o b1 b2 e)) (hs.at fun o e => k2 a o hw e) (fun x => ?_) (by omega)))
    rw [hm x, List.take_of_length_le (by omega)]
  | succ m ih =>
    intro i h1 tk e st k1 ⟨l, hs, hm, hl⟩
    refine codeAny_builtin F.entry_set_update_loop ?_
    rw [Around.under_plainId F.plain_set_update_loop _]
    refine wpAny_bind (W.item i { s with heap := h1, toks := tk } _ _ (by omega) st fun v h2 t2 hp st2 k2 => ?_)
    obtain ⟨x, t, hx, rfl⟩ := hv i v hp
    refine wpAny_bind (m := holding _ (setAdd a _)) (wpAny_holding ?_)
    unfold setAdd
    refine wpAny_holding (wpAny_bind ((strKind P w).pyHash (k := x) (is_str x t) ?_))
    refine put_s (s := { s with heap := h2, toks := t2 + 1 }) (hs.at fun o e => k2 a o hw e) (by omega) fun h3 l3 b sb hs3 hm3 hl3 => ?_
    have k3 : ∀ b o, b ≠ a → h2.get? b = some o → h3.get? b = some o := fun b o q z => (sb.2 b q).trans z
    refine wpAny_pure ⟨plainId_quiet F.plain_set_update_loop _, ih (i + 1) h3 _ (by omega) (W.frame _ _ _ st2 fun b hbf o z => k3 b o (fun q => ha (q ▸ hbf)) z) (fun b o b1 b2 z => k3 b o b1 (k2 b o b2 (k1 b o b1 b2 z))) ⟨l3, hs3, fun y => ?_, by omega⟩⟩
    rw [hm3 y, hm y, List.take_add_one, hx]
    simp
end
end Own

namespace Own
open PySem L2 PyProof.Rows PySem.Froz
/-- the set that has just been made -/
def newSetO (w : World) : Obj := { cls := .type "set", dict := none, data := .set #[] 0 (.fresh 0 0 (!w.params.followText "set-order")) }
theorem new_s (P : Program) (w : World) {h : Heap} {a : Addr} (e : h.get? a = some (newSetO w)) : SetS P w h a [] := by
  refine ⟨(#[], 0, .fresh 0 0 (!w.params.followText "set-order")), e, ⟨List.Pairwise.nil, ?_⟩, .nil (by rfl), List.nodup_nil⟩
  show _ ∨ (!w.params.followText "set-order") = true
  cases w.params.followText "set-order"
  · exact .inr rfl
  · exact .inl rfl
/-- what can be walked, and gives the texts xs: x of the type T -/
structure Gives (P : Program) (w : World) (E : Value → Shared → Prop) (s : Shared) (x : Value) (T : String) (xs : List Str) : Prop where
  ty : ∀ s1 : Shared, (∀ b o, s.heap.get? b = some o → s1.heap.get? b = some o) → s1.TypeIs x T
  no1 : isSubtype (.type T) (.type "set") = pure false
  no2 : isSubtype (.type T) (.type "frozenset") = pure false
  no3 : (Value.type T == Value.type "dict") = false
  it : ∀ (A : Around) (s1 : Shared) (Q : Value → Shared → Prop), A.handled = none → (∀ b o, s.heap.get? b = some o → s1.heap.get? b = some o) →
    (∀ (o : Obj) (fp : List Addr) (St : Nat → Heap → Prop) (Pv : Nat → Value → Prop), (∀ B : Around, B.handled = none → Walks P w B s1.heap.objs.size fp [s1.heap.objs.size] xs.length Pv St) →
      (∀ b ∈ fp, b = s1.heap.objs.size ∨ ∃ o, s.heap.get? b = some o) → (∀ i v, Pv i v → ∃ y t, xs[i]? = some y ∧ v = .str y t) → St 0 (s1.heap.push o) → Q (.ref s1.heap.objs.size) { s1 with heap := s1.heap.push o }) →
    wpAny (model P w) A (pyIter x) Q E s1
section
variable {P : Program} {w : World} {A : Around} {E : Value → Shared → Prop} {s : Shared} {x : Value} {T : String} {xs : List Str}
theorem upd_fr {a : Addr} {s1 : Shared} {Q : Unit → Shared → Prop} (g : Gives P w E s x T xs) (hh : A.handled = none) (k : ∀ b o, s.heap.get? b = some o → s1.heap.get? b = some o) (na : s.heap.get? a = none) (S : SetS P w s1.heap a []) (hb : xs.length + 1 < scanBound)
    (q : ∀ (h' : Heap) tk l, (∀ b o, b ≠ a → s1.heap.get? b = some o → h'.get? b = some o) → SetS P w h' a l → (∀ y, y ∈ l ↔ y ∈ xs) → l.length ≤ xs.length → Q () { s1 with heap := h', toks := tk }) :
    wpAny (model P w) A (Builtin.Frozenset.updateFrom "set.__init__" a x) Q E s1 := by
  have ty := g.ty s1 k
  unfold Builtin.Frozenset.updateFrom
  refine wpAny_bind (m := Builtin.Frozenset.isAnySet x) ?_
  · unfold Builtin.Frozenset.isAnySet orM
    refine wpAny_bind (wpAny_isInstance ty g.no1 ?_)
    refine wpAny_isInstance ty g.no2 ?_
    dsimp only
    simp only [Bool.false_eq_true, ↓reduceIte]
    refine wpAny_bind (wpAny_typeOf ty ?_)
    rw [g.no3]
    simp only [Bool.false_eq_true, ↓reduceIte]
    refine wpAny_bind (g.it A s1 _ hh k fun o fp St Pv W hfp hv st => ?_)
    have ha : a < s1.heap.objs.size := by
      obtain ⟨D, e, _⟩ := S
      exact Heap.lt_size e
    have hf : a ∉ fp := fun z => by
      rcases hfp a z with e | ⟨o, e⟩
      · exact Nat.ne_of_lt ha e
      · rw [na] at e; cases e
    refine wpAny_bind (wpAny_runValue ?_)
    refine fill_s (s := { s1 with heap := s1.heap.push o }) (W A.in1 hh) hf xs rfl hb hv (fun h' tk l kk hs hm hl => ?_) xs.length 0 (s1.heap.push o) s1.toks (by omega) st (fun b o' _ _ e => e) ⟨[], S.at fun o' e => Heap.get?_push_of_some _ e, fun y => by simp, Nat.le_refl _⟩
    refine wpAny_pure (q h' tk l (fun b u hb' e => kk b u hb' (fun z => ?_) (Heap.get?_push_of_some _ e)) hs hm hl)
    exact Nat.ne_of_lt (Heap.lt_size e) (List.mem_singleton.mp z)
theorem call_setG (g : Gives P w E s x T xs) (hh : A.handled = none) (hb : xs.length + 1 < scanBound) {Q : Value → Shared → Prop}
    (q : ∀ (h' : Heap) tk l, (∀ b o, s.heap.get? b = some o → h'.get? b = some o) → SetS P w h' s.heap.objs.size l → (∀ y, y ∈ l ↔ y ∈ xs) → l.length ≤ xs.length → Q (.ref s.heap.objs.size) { s with heap := h', toks := tk }) :
    wpAny (model P w) A (call (.type "set") [x]) Q E s := by
  obtain ⟨c, tl, hmro⟩ := F.called_set.mro
  have k1 := F.called_set.made
  have k2 := F.called_set.sub
  have k3 := F.called_set.notType
  have k4 := F.called_set.canCreate
  have k5 := F.typeCall_set_1 x
  refine wpAny_call (codeAny_of_tree ?_)
  show wpAny _ _ (callAny (.type "set") _) _ _ _
  refine wpAny_pure ⟨Code.quiet_builtin _ (by decide +kernel), codeAny_builtin F.entry_type_call ?_⟩
  rw [Around.under_plain (weight_type_call_type "set" [x] []) rfl]
  repeat (any_goals (first | assumption | wp_step))
  have na : s.heap.get? s.heap.objs.size = none := by
    cases e : s.heap.get? s.heap.objs.size with
    | none => rfl
    | some o => exact absurd (Heap.lt_size e) (Nat.lt_irrefl _)
  have hp : ∀ b o, s.heap.get? b = some o → (s.heap.push (newSetO w)).get? b = some o := fun b o e => Heap.get?_push_of_some _ e
  have hn : (s.heap.push (newSetO w)).get? s.heap.objs.size = some (newSetO w) := Heap.get?_push_size _ rfl
  refine codeAny_mono (code_set_led1 x (E := E) (Q₁ := fun obj z => obj = .ref s.heap.objs.size ∧ z = { s with heap := s.heap.push (newSetO w) }) ⟨rfl, rfl⟩) fun r z hr => ?_
  cases r with
  | error e => exact hr
  | ok fl =>
    cases fl with
    | ret obj =>
      obtain ⟨rfl, rfl⟩ := hr
      have hT : Shared.TypeIs { s with heap := s.heap.push (newSetO w) } (.ref s.heap.objs.size) "set" := ⟨_, hn, rfl⟩
      have k6 := F.called_set.init.lookup
      have k7 := F.called_set.init.bind (.ref s.heap.objs.size)
      repeat (any_goals (first | assumption | wp_step))
      refine codeAny_mono (codeAny_call_builtin (R := wants (fun r z => r = .none ∧ ∃ h' tk l, z = { s with heap := h', toks := tk } ∧ (∀ b o, s.heap.get? b = some o → h'.get? b = some o) ∧ SetS P w h' s.heap.objs.size l ∧ (∀ y, y ∈ l ↔ y ∈ xs) ∧ l.length ≤ xs.length) E)
        F.called_set.init.plain F.entry_set_init (check_set_init_1 hT ?_)) fun r2 z2 hr2 => ?_
      · unfold Builtin.«set.__init__» noKeywords
        generalize hU : @Builtin.Frozenset.updateFrom = U
        wp_walk
        subst hU
        refine upd_fr (E := E) (s1 := { s with heap := s.heap.push (newSetO w) }) g hh hp na (new_s P w hn) hb fun h' tk l kk hs hm hl => ?_
        exact wpAny_pure ⟨rfl, h', tk, l, rfl, fun b o e => kk b o (Nat.ne_of_lt (Heap.lt_size e)) (hp b o e), hs, hm, hl⟩
      · cases r2 with
        | error e => exact hr2
        | ok fl2 =>
          cases fl2 with
          | ret r =>
            obtain ⟨rfl, h', tk, l, rfl, kk, hs, hm, hl⟩ := hr2
            repeat (any_goals (first | assumption | wp_step))
            exact q h' tk l kk hs hm hl
          | _ => exact hr2.elim
    | _ => exact hr.elim
end
end Own

namespace Own
open PySem PySem.Spec L2 PyProof.Rows PySem.Froz
section
variable {P : Program} {w : World} {A : Around} {E : Value → Shared → Prop} {s : Shared} {xs : List Str}
/-- a list of texts -/
theorem gives_list {l : Addr} {us : List Value} (hl : s.heap.IsList l us.toArray) (hu : StrsAre us xs) : Gives P w E s (.ref l) "list" xs where
  ty := fun s1 k => by
    obtain ⟨o, e, r⟩ := hl
    exact ⟨o, k l o e, r.1⟩
  no1 := F.sub_list_set
  no2 := F.sub_list_frozenset
  no3 := by decide
  it := fun A s1 Q hh k q => by
    have hl1 : s1.heap.IsList l us.toArray := by
      obtain ⟨o, e, r⟩ := hl
      exact ⟨o, k l o e, r⟩
    have hb : l < s1.heap.objs.size := by
      obtain ⟨o, e, _⟩ := hl1
      exact Heap.lt_size e
    have hz : us.toArray.size = xs.length := by rw [List.size_toArray]; exact hu.length
    refine wpAny_pyIter_list hl1 (q _ [s1.heap.objs.size, l] (fun i h => h.IsListIter s1.heap.objs.size l i ∧ h.IsList l us.toArray) (fun i v => us.toArray[i]? = some v) (fun B hB => ?_) (fun b hb => ?_) (fun i v e => ?_) ⟨⟨_, Heap.get?_push_size _ rfl, rfl, rfl⟩, hl1.push _⟩)
    · rw [← hz]
      exact Walks.list hB _ l (Nat.ne_of_lt hb) us.toArray
    · rcases List.mem_cons.mp hb with z | z
      · exact .inl z
      · rw [List.mem_singleton.mp z]
        obtain ⟨o, e, _⟩ := hl
        exact .inr ⟨o, e⟩
    · obtain ⟨y, t, z, e2⟩ := hu.item i v (by rw [← e]; simp)
      exact ⟨y, t, e2, z⟩
/-- a tuple of texts -/
theorem gives_tup {l : Addr} {us : List Value} (hl : s.heap.IsTuple l us.toArray) (hu : StrsAre us xs) : Gives P w E s (.ref l) "tuple" xs where
  ty := fun s1 k => by
    obtain ⟨o, e, r⟩ := hl
    exact ⟨o, k l o e, r.1⟩
  no1 := F.sub_tuple_set
  no2 := F.sub_tuple_frozenset
  no3 := by decide
  it := fun A s1 Q hh k q => by
    have hl1 : s1.heap.IsTuple l us.toArray := by
      obtain ⟨o, e, r⟩ := hl
      exact ⟨o, k l o e, r⟩
    have hb : l < s1.heap.objs.size := by
      obtain ⟨o, e, _⟩ := hl1
      exact Heap.lt_size e
    have hz : us.toArray.size = xs.length := by rw [List.size_toArray]; exact hu.length
    refine wpAny_pyIter_tuple hl1 (q _ [s1.heap.objs.size, l] (fun i h => h.IsTupleIter s1.heap.objs.size l i ∧ h.IsTuple l us.toArray) (fun i v => us.toArray[i]? = some v) (fun B hB => ?_) (fun b hb => ?_) (fun i v e => ?_) ⟨⟨_, Heap.get?_push_size _ rfl, rfl, rfl⟩, hl1.push _⟩)
    · rw [← hz]
      exact Walks.tuple hB _ l (Nat.ne_of_lt hb) us.toArray
    · rcases List.mem_cons.mp hb with z | z
      · exact .inl z
      · rw [List.mem_singleton.mp z]
        obtain ⟨o, e, _⟩ := hl
        exact .inr ⟨o, e⟩
    · obtain ⟨y, t, z, e2⟩ := hu.item i v (by rw [← e]; simp)
      exact ⟨y, t, e2, z⟩
/-- the letters of a text -/
def letters (x : Str) : List Str := x.cps.toList.map sing
theorem gives_str {x : Str} {t : Tok} : Gives P w E s (.str x t) "str" (letters x) where
  ty := fun s1 _ => typeIs_str _ _ _
  no1 := PySem.F.sub_str_set
  no2 := PySem.F.sub_str_frozenset
  no3 := by decide
  it := fun A s1 Q hh k q => by
    refine wpAny_pyIter_str fun o St W st => q o [s1.heap.objs.size] St (SignAt x) (fun B hB => ?_) (fun b hb => .inl (List.mem_singleton.mp hb)) (fun i v e => ?_) st
    · have hz : (letters x).length = x.cps.size := by unfold letters; rw [List.length_map, Array.length_toList]
      rw [hz]
      exact W B hB
    · obtain ⟨c, u, e1, e2⟩ := e
      refine ⟨sing c, u, ?_, e2⟩
      unfold letters
      rw [List.getElem?_map, Array.getElem?_toList, e1]
      rfl
/-- a row of texts that has all of l, and is no longer -/
theorem perm_s : ∀ (l ys : List Str), l.Nodup → (∀ x ∈ l, x ∈ ys) → ys.length ≤ l.length → ys.Perm l
  | [], ys, _, _, h => by
    cases ys with
    | nil => exact .nil
    | cons y r => simp at h
  | x :: l, ys, nd, hs, h => by
    obtain ⟨n1, n2⟩ := List.nodup_cons.mp nd
    have hx := hs x List.mem_cons_self
    have le : (ys.erase x).length ≤ l.length := by
      rw [List.length_erase_of_mem hx]
      rw [List.length_cons] at h
      omega
    refine (List.perm_cons_erase hx).trans ((perm_s l (ys.erase x) n2 (fun y hy => ?_) le).cons x)
    exact (List.mem_erase_of_ne (fun e : y = x => n1 (e ▸ hy))).mpr (hs y (List.mem_cons_of_mem _ hy))
def textOf : Value → Str
  | .str x _ => x
  | _ => Str.empty
theorem strs_map : ∀ vs : List Value, (∀ v ∈ vs, ∃ x t, v = .str x t) → StrsAre vs (vs.map textOf)
  | [], _ => .nil
  | v :: vs, h => by
    obtain ⟨x, t, rfl⟩ := h v List.mem_cons_self
    exact .cons x t (strs_map vs fun u hu => h u (List.mem_cons_of_mem _ hu))
/-- sorted(set) -/
theorem sorted_s {a : Addr} {l : List Str} {Q : Value → Shared → Prop} (R : SetS P w s.heap a l) (hh : A.handled = none) (hb : l.length < scanBound)
    (q : ∀ s' p (out : Array Value) (c : Nat) (ys : List Str), (∀ b o, s.heap.get? b = some o → s'.heap.get? b = some o) → s'.gens = s.gens → s'.os = s.os → s.heap.objs.size ≤ p →
      s'.heap.get? p = some (seqObj "list" out c) → StrsAre out.toList ys → ys.Perm l → sortedS ys = true → Q (.ref p) s') :
    wpAny (model P w) A (call (.builtin "sorted") [.ref a]) Q E s := by
  obtain ⟨D, ho, td, F, nd⟩ := R
  refine Calls.call_function_entry kind_sorted plain_sorted entry_sorted (args_sorted1 _) ?_
  unfold Builtin.«sorted»
  refine wpAny_bind (m := checkCount "sorted" 1 1 _) (wpAny_pure ?_)
  have sz : D.1.size = l.length := F.sz
  refine wpAny_bind (collect_set (A := A.in1) hh ⟨_, ho, rfl, rfl⟩ F.fit (by rw [sz]; exact hb) td.1 td.2 fun s1 vs k1 z1 g1 o1 pm => ?_)
  have sv : ∀ v ∈ vs, ∃ x t, v = .str x t ∧ ∃ e ∈ D.1.toList, e.2 = v := fun v hv => by
    obtain ⟨e, he, e2⟩ := List.mem_map.mp (pm.mem_iff.mp hv)
    obtain ⟨⟨k, hk, _⟩, _⟩ := F.el e he
    obtain ⟨t, z⟩ := Value.isStrOf_shape (x := k) (v := e.2) hk
    exact ⟨k, t, e2.symm.trans z, e, he, e2⟩
  have hS : StrsAre vs (vs.map textOf) := strs_map vs fun v hv => let ⟨x, t, z, _⟩ := sv v hv; ⟨x, t, z⟩
  have hlen : vs.length = l.length := by rw [pm.length_eq, List.length_map, Array.length_toList]; exact sz
  have hp : (vs.map textOf).Perm l := perm_s l _ nd (fun x hx => by
    obtain ⟨e, he, z⟩ := (F.mem x).mp hx
    obtain ⟨t, z2⟩ := Value.isStrOf_shape (x := x) (v := e.2) z
    exact List.mem_map.mpr ⟨e.2, pm.mem_iff.mpr (List.mem_map.mpr ⟨e, he, rfl⟩), by rw [z2]; rfl⟩) (by rw [List.length_map]; omega)
  have fit : vs.length ≤ sizeLine := by rw [hlen]; exact fits_of_scanBound hb
  refine wpAny_bind (wpAny_newList ?_ fit)
  have hoL : (s1.heap.push (seqObj "list" vs.toArray 0)).get? s1.heap.objs.size = some (seqObj "list" vs.toArray 0) := Heap.get?_push_size _ rfl
  refine wpAny_bind (wpAny_holding (wpAny_call_entry slot_list_sort ⟨_, hoL, rfl⟩ entry_list_sort
    (list_sort_treeKAny strKind_oneLt hoL hS.keysOf (fun v₁ v₂ rest e => keyKind_strs (by rw [← e]; exact hS)) fit fun st a1 a2 => ⟨_, rfl, ?_⟩) (args_list_sort _)))
  obtain ⟨ys, b1, b2, b3⟩ := sorted_out_str hS a1 a2
  obtain ⟨c, hc⟩ := sortedHeap_at (vs := vs) (out := (arrOf st).map (·.2)) hoL
  refine wpAny_pure ⟨_, rfl, q _ s1.heap.objs.size _ c ys (fun b u e => ?_) g1 o1 z1 hc b1 (b2.trans hp) b3⟩
  have e1 := k1 b u e
  have lt := Heap.lt_size e1
  have e2 := sortedHeap_old (h := s1.heap.push (seqObj "list" vs.toArray 0)) (a := s1.heap.objs.size) (vs := vs) (out := (arrOf st).map (·.2)) (b := b) (Nat.ne_of_lt lt) (by rw [size_push']; exact Nat.lt_succ_of_lt lt)
  exact e2.trans (Heap.get?_push_of_some _ e1)
/-- len(set) -/
theorem len_s {a : Addr} {l : List Str} {Q : Value → Shared → Prop} (R : SetS P w s.heap a l) (hb : l.length < scanBound) (q : Q (.int l.length (s.toks + 1)) { s with toks := s.toks + 1 + 1 }) :
    wpAny (model P w) A (call (.builtin "len") [.ref a]) Q E s := by
  obtain ⟨D, ho, td, F, nd⟩ := R
  have sz : D.1.size = l.length := F.sz
  refine call_len_set ho ⟨rfl, rfl, rfl⟩ rfl F.fit ?_ (by rw [sz]; exact q)
  rw [sz]
  have : (l.length : Int) < 4096 := by unfold scanBound at hb; omega
  exact Int.lt_of_lt_of_le this (by decide +kernel)
/-- x in set -/
theorem in_s {a : Addr} {l : List Str} (R : SetS P w s.heap a l) (hb : l.length < scanBound) : s.heap.SetOf (PySem.strKind P w) a (fun k => decide (k ∈ l)) l.length := by
  obtain ⟨D, ho, td, F, nd⟩ := R
  exact ⟨_, D.1, D.2.1, D.2.2, ho, ⟨rfl, rfl, rfl⟩, rfl, F.el, fun k => by rw [decide_eq_true_eq]; exact F.mem k, by rw [show D.1.size = l.length from F.sz]; exact hb, F.fit, F.sz⟩
end
end Own

namespace Own
open PySem PySem.Spec L2 PyProof.Rows PySem.Froz
/-- a set of texts on the tracked heap -/
def SetT (P : Program) (w : World) (a : Addr) (l : List Str) : HO := .ext fun h => SetS P w h a l
theorem setT_ok {P : Program} {w : World} {H : Hp} {h : Heap} {a : Addr} {l : List Str} (R : SetS P w h a l) : ObjOk P w H h a (SetT P w a l) := by
  have ⟨D, e, _⟩ := R
  exact ⟨R, ⟨_, e⟩, fun h1 h2 p k => SetS.at p k⟩
/-- what gives the texts xs: a list, a tuple, a text letter by letter -/
inductive Texts (K : PySem.W.Frag) (H : Hp) : V → List Str → Prop
  | list {a xs} : SqL K H a (xs.map V.str) → Texts K H (.ref a) xs
  | tup {a xs} : SqT K H a (xs.map V.str) → Texts K H (.ref a) xs
  | text (y : Str) : Texts K H (.str y) (letters y)
def rSetT (P : Program) (w : World) (K : PySem.W.Frag) : List V → Hp → VK → Prop := fun vs H Q => ∃ x xs, vs = [x] ∧ Texts K H x xs ∧ xs.length + 1 < scanBound ∧
  ∀ (p : Addr) (l : List Str), H p = none → l.Nodup → (∀ y, y ∈ l ↔ y ∈ xs) → l.length ≤ xs.length → Q (.ref p) (upd H p (SetT P w p l))
def rSortT (P : Program) (w : World) : List V → Hp → VK → Prop := fun vs H Q => ∃ (a : Addr) (l : List Str), vs = [.ref a] ∧ H a = some (SetT P w a l) ∧ l.length < scanBound ∧
  ∀ (p : Addr) (ys : List Str), H p = none → ys.Perm l → sortedS ys = true → Q (.ref p) (upd H p (.lst (ys.map V.str)))
def rLenT (P : Program) (w : World) : List V → Hp → VK → Prop := fun vs H Q => ∃ (a : Addr) (l : List Str), vs = [.ref a] ∧ H a = some (SetT P w a l) ∧ l.length < scanBound ∧ Q (.int l.length) H
theorem SetS.nodup {P : Program} {w : World} {h : Heap} {a : Addr} {l : List Str} (R : SetS P w h a l) : l.Nodup := by
  obtain ⟨_, _, _, _, nd⟩ := R
  exact nd
section
variable {X : Cx}
theorem setT_at {pins : List (Addr × Obj)} {σ : L2.St} {H : Hp} {s : Shared} {a : Addr} {l : List Str} (I : Inv X pins σ H s) (ha : H a = some (SetT X.prog X.w a l)) : SetS X.prog X.w s.heap a l := (I.hok a _ ha).1
theorem IsTup.isTuple {h : Heap} {a : Addr} {items : Array Value} (e : IsTup h a items) : h.IsTuple a items := e
theorem cr_setT (hc : X.calm = true) : CallR X (.type "set") (rSetT X.prog X.w X.K) := by
  intro pins s σ H vs us Q I r h
  obtain ⟨x, xs, rfl, tx, hb, q⟩ := h
  obtain ⟨u, rfl, rx⟩ := vals1 r
  have go : ∀ T, Gives X.prog X.w X.xe s u T xs → wpAny (model X.prog X.w) X.A (call (.type "set") [u]) (EP X pins σ Q) X.xe s := fun T g =>
    call_setG g (I.ok.hd hc) hb fun h' tk l k S hm hl =>
      ⟨.ref _, upd H s.heap.objs.size (SetT X.prog X.w s.heap.objs.size l), I.laid (t' := tk) k (Nat.le_refl _) (setT_ok S), rfl, q _ l (I.hok.fresh (Nat.le_refl _)) S.nodup hm hl⟩
  cases tx with
  | list hs =>
    obtain ⟨its, rv, hl, _⟩ := I.list hs
    cases rx
    exact go _ (gives_list hl.isList rv.strs)
  | tup hs =>
    obtain ⟨its, rv, hl, _⟩ := I.tuple hs
    cases rx
    exact go _ (gives_tup (IsTup.isTuple hl) rv.strs)
  | text y =>
    obtain ⟨t, rfl⟩ := rx
    exact go _ gives_str
theorem cr_sortT (hc : X.calm = true) : CallR X (.builtin "sorted") (rSortT X.prog X.w) := by
  intro pins s σ H vs us Q I r h
  obtain ⟨a, l, rfl, ha, hb, q⟩ := h
  rw [Vals.ref1 r]
  refine sorted_s (setT_at I ha) (I.ok.hd hc) hb fun s' p out c ys k g o hp hg hi pm hs => ?_
  have hz : (ys.map V.str).length ≤ sizeLine := by rw [List.length_map, pm.length_eq]; exact fits_of_scanBound hb
  have hn : H p = none := I.hok.fresh hp
  have J : Inv X pins σ (upd H p (.lst (ys.map V.str))) { s with heap := s'.heap, gens := s'.gens, drawn := s'.drawn, toks := s'.toks } :=
    I.call (ch := []) (Un.laid k hp hn) (I.hok.laid k hp ⟨hz, out.toList, c, vals_of_strs hi, hg⟩) (by rw [g]; exact I.bare) (fun _ z => nomatch z)
  have e : s' = { s with heap := s'.heap, gens := s'.gens, drawn := s'.drawn, toks := s'.toks } := by
    obtain ⟨_, _, _, _, _⟩ := s'
    obtain ⟨_, _, _, _, _⟩ := s
    cases o
    rfl
  rw [e]
  exact ⟨.ref p, _, J, rfl, q p ys hn pm hs⟩
theorem cr_lenT : CallR X (.builtin "len") (rLenT X.prog X.w) := by
  intro pins s σ H vs us Q I r h
  obtain ⟨a, l, rfl, ha, hb, q⟩ := h
  rw [Vals.ref1 r]
  exact len_s (setT_at I ha) hb ⟨.int l.length, H, I.tok _, ⟨_, rfl⟩, q⟩
/-- a text in a set, or not in it -/
def rInT (P : Program) (w : World) (f : Bool → Bool) : V → V → Hp → VK → Prop := fun x y H Q => ∃ (k : Str) (a : Addr) (l : List Str), x = .str k ∧ y = .ref a ∧ H a = some (SetT P w a l) ∧ l.length < scanBound ∧ Q (.bl (f (decide (k ∈ l)))) H
theorem or_inT : OpR X (compareOp .In) (rInT X.prog X.w id) := by
  intro pins s σ H x y v u Q I rx ry h
  obtain ⟨k, a, l, rfl, rfl, ha, hb, q⟩ := h
  obtain ⟨t, rfl⟩ := rx
  cases ry
  exact wpAny_inSet_of (knd := PySem.strKind X.prog X.w) (k := k) (is_str k t) rfl (in_s (setT_at I ha) hb) ⟨.bl _, H, I.tok _, rfl, q⟩
theorem or_notinT : OpR X (compareOp .NotIn) (rInT X.prog X.w not) := by
  intro pins s σ H x y v u Q I rx ry h
  obtain ⟨k, a, l, rfl, rfl, ha, hb, q⟩ := h
  obtain ⟨t, rfl⟩ := rx
  cases ry
  exact wpAny_notInSet_of (knd := PySem.strKind X.prog X.w) (k := k) (is_str k t) rfl (in_s (setT_at I ha) hb) ⟨.bl _, H, I.tok _, rfl, q⟩
end
end Own

namespace Own
open PySem PySem.Spec L2 PyProof.Rows PySem.Froz
/-! ### the keys of a row of texts: each once, in ascending order -/
def leS (a b : Str) : Prop := ltCps b.cps.toList a.cps.toList = false
theorem leS_iff (a b : Str) : leS a b ↔ a.cps.toList ≤ b.cps.toList := by
  unfold leS
  rw [ltCps_eq, decide_eq_false_iff_not]
  exact List.not_lt
theorem leS_trans {a b c : Str} (h : leS a b) (k : leS b c) : leS a c := (leS_iff a c).mpr (List.le_trans ((leS_iff a b).mp h) ((leS_iff b c).mp k))
theorem leS_total (a b : Str) : leS a b ∨ leS b a := (List.le_total a.cps.toList b.cps.toList).imp (leS_iff a b).mpr (leS_iff b a).mpr
theorem leS_anti {a b : Str} (h : leS a b) (k : leS b a) : a = b := by
  have e := List.le_antisymm ((leS_iff a b).mp h) ((leS_iff b a).mp k)
  obtain ⟨⟨x⟩⟩ := a
  obtain ⟨⟨y⟩⟩ := b
  have e' : x = y := e
  rw [e']
theorem pair_rising : ∀ (l : List Str) (p : Str), risingS p l = true → (p :: l).Pairwise leS
  | [], p, _ => List.pairwise_singleton _ _
  | x :: l, p, h => by
    unfold risingS at h
    rw [Bool.and_eq_true] at h
    have ih := pair_rising l x h.2
    have px : leS p x := by
      have q := h.1
      unfold leS
      simpa using q
    refine List.pairwise_cons.mpr ⟨fun y hy => ?_, ih⟩
    rcases List.mem_cons.mp hy with rfl | z
    · exact px
    · exact leS_trans px ((List.pairwise_cons.mp ih).1 y z)
theorem pair_sorted {l : List Str} (h : sortedS l = true) : l.Pairwise leS := by
  cases l with
  | nil => exact .nil
  | cons x r => exact pair_rising r x h
theorem same_sorted : ∀ (xs ys : List Str), xs.Perm ys → xs.Pairwise leS → ys.Pairwise leS → xs = ys
  | [], ys, p, _, _ => (List.nil_perm.mp p).symm
  | x :: r, [], p, _, _ => (List.perm_nil.mp p)
  | x :: r, y :: t, p, a, b => by
    obtain ⟨a1, a2⟩ := List.pairwise_cons.mp a
    obtain ⟨b1, b2⟩ := List.pairwise_cons.mp b
    have e : x = y := by
      have hx := p.mem_iff.mp (List.mem_cons_self (a := x) (l := r))
      have hy := p.mem_iff.mpr (List.mem_cons_self (a := y) (l := t))
      rcases List.mem_cons.mp hx with z | z
      · exact z
      · rcases List.mem_cons.mp hy with z2 | z2
        · exact z2.symm
        · exact leS_anti (a1 y z2) (b1 x z)
    subst e
    rw [same_sorted r t p.cons_inv a2 b2]
instance (a b : Str) : Decidable (leS a b) := by unfold leS; exact inferInstance
def once (xs : List Str) : List Str := xs.foldr (fun x l => if x ∈ l then l else x :: l) []
theorem once_mem (y : Str) : ∀ xs : List Str, y ∈ once xs ↔ y ∈ xs
  | [] => Iff.rfl
  | x :: xs => by
    have ih := once_mem y xs
    show y ∈ (if x ∈ once xs then once xs else x :: once xs) ↔ _
    split
    · rename_i c
      rw [List.mem_cons, ih]
      exact ⟨.inr, fun z => z.elim (fun e => by rw [e]; exact (once_mem x xs).mp c) id⟩
    · rw [List.mem_cons, List.mem_cons, ih]
theorem once_nodup : ∀ xs : List Str, (once xs).Nodup
  | [] => List.nodup_nil
  | x :: xs => by
    show (if x ∈ once xs then once xs else x :: once xs).Nodup
    split
    · exact once_nodup xs
    · rename_i c
      exact List.nodup_cons.mpr ⟨c, once_nodup xs⟩
theorem once_len : ∀ xs : List Str, (once xs).length ≤ xs.length
  | [] => Nat.le_refl _
  | x :: xs => by
    have ih := once_len xs
    show (if x ∈ once xs then once xs else x :: once xs).length ≤ _
    split
    · rw [List.length_cons]; omega
    · rw [List.length_cons, List.length_cons]; omega
/-- tuple(sorted(set(xs))) -/
def kl (xs : List Str) : List Str := (once xs).mergeSort fun a b => decide (leS a b)
theorem kl_perm (xs : List Str) : (kl xs).Perm (once xs) := List.mergeSort_perm _ _
theorem kl_mem {xs : List Str} {y : Str} : y ∈ kl xs ↔ y ∈ xs := (kl_perm xs).mem_iff.trans (once_mem y xs)
theorem kl_nodup (xs : List Str) : (kl xs).Nodup := (kl_perm xs).nodup_iff.mpr (once_nodup xs)
theorem kl_len (xs : List Str) : (kl xs).length ≤ xs.length := by rw [(kl_perm xs).length_eq]; exact once_len xs
theorem kl_pair (xs : List Str) : (kl xs).Pairwise leS := by
  have h := List.pairwise_mergeSort (le := fun a b => decide (leS a b)) (fun a b c h k => by
    rw [decide_eq_true_eq] at h k ⊢
    exact leS_trans h k) (fun a b => by
    rw [Bool.or_eq_true, decide_eq_true_eq, decide_eq_true_eq]
    exact leS_total a b) (once xs)
  exact h.imp fun z => by rwa [decide_eq_true_eq] at z
theorem perm_mem {l ys : List Str} (a : l.Nodup) (b : ys.Nodup) (h : ∀ y, y ∈ l ↔ y ∈ ys) : l.Perm ys := by
  refine (perm_s l ys a (fun x hx => (h x).mp hx) ?_).symm
  exact (perm_len ys l b fun x hx => (h x).mpr hx)
where perm_len : ∀ (u v : List Str), u.Nodup → (∀ x ∈ u, x ∈ v) → u.length ≤ v.length
  | [], _, _, _ => Nat.zero_le _
  | x :: u, v, nd, hs => by
    obtain ⟨n1, n2⟩ := List.nodup_cons.mp nd
    have hx := hs x List.mem_cons_self
    have ih := perm_len u (v.erase x) n2 fun y hy => (List.mem_erase_of_ne (fun e : y = x => n1 (e ▸ hy))).mpr (hs y (List.mem_cons_of_mem _ hy))
    have e := List.length_erase_of_mem hx
    have p := List.length_pos_of_mem hx
    rw [List.length_cons]
    omega
theorem kl_uniq {xs ys : List Str} (a : ys.Nodup) (s : ys.Pairwise leS) (h : ∀ y, y ∈ ys ↔ y ∈ xs) : ys = kl xs :=
  same_sorted _ _ (perm_mem a (kl_nodup xs) fun y => (h y).trans kl_mem.symm) s (kl_pair xs)
theorem kl_of {xs l ys : List Str} (p : ys.Perm l) (s : sortedS ys = true) (nd : l.Nodup) (h : ∀ y, y ∈ l ↔ y ∈ xs) : ys = kl xs :=
  kl_uniq (p.nodup_iff.mpr nd) (pair_sorted s) fun y => p.mem_iff.trans (h y)
theorem kl_congr {xs ys : List Str} (h : ∀ y, y ∈ xs ↔ y ∈ ys) : kl xs = kl ys := kl_uniq (kl_nodup xs) (kl_pair xs) fun y => kl_mem.trans (h y)
theorem kl_kl (xs : List Str) : kl (kl xs) = kl xs := kl_congr fun _ => kl_mem
theorem len_once {xs l : List Str} (nd : l.Nodup) (h : ∀ y, y ∈ l ↔ y ∈ xs) : l.length = (kl xs).length := (perm_mem nd (kl_nodup xs) fun y => (h y).trans kl_mem.symm).length_eq
theorem kl_sub {xs ys : List Str} (h : ∀ y ∈ xs, y ∈ ys) : (kl xs).length ≤ (kl ys).length := perm_mem.perm_len _ _ (kl_nodup xs) fun y hy => kl_mem.mpr (h y (kl_mem.mp hy))
end Own

/-! list comprehensions of any number of clauses -/
namespace Own
open PySem PySem.Spec PyProof.Rows L2
/-- what a clause whose tests hold does next -/
def onward (elt : Expr) (gs : List Comprehension) (scope : Scope) (pos : Pos) (d : Nat) (acc : Value) (env : Env) : Sem Unit := match gs[d]? with
  | some g' => do
    let x ← eval g'.iter env
    standAt g'.iter.pos
    let x ← if g'.is_async != 0 then foldedIterable g'.iter x else foldedSetIterable g'.iter env x
    let _ ← runOwn (.compStart (.ListComp elt gs scope pos) d (← holding [x] (if g'.is_async != 0 then asyncIter x else pyIter x)) acc env) env
  | none => do
    let _ ← call (.builtin "list.append") [acc, ← eval elt env]
/-- the clause at d is there, or d is the end -/
def Nextly (gs : List Comprehension) (d : Nat) : Prop := gs[d]? = none ∨ ∃ t i fs, gs[d]? = some ⟨t, i, fs, 0⟩
theorem turn_of {elt tg iter : Expr} {ifs : List Expr} {gs : List Comprehension} {scope : Scope} {pos : Pos} {d : Nat} {it acc : Value} {env : Env} (hg : gs[d]? = some ⟨tg, iter, ifs, 0⟩) (hn : Nextly gs (d + 1)) :
    compTurn (.ListComp elt gs scope pos) d it acc env = (do
      standAt iter.pos
      match ← pyNext it with
      | none => pure (.done .next)
      | some v =>
        letOwnedTupleGo tg it v
        assign tg env v
        let mut ok := true
        for c in ifs do
          if ok then ok ← isTrue c env (eval c env)
        if ok then
          onward elt gs scope pos (d + 1) acc env
          again (.compLoop (.ListComp elt gs scope pos) d it acc env)
        else again (.compLoop (.ListComp elt gs scope pos) d it acc env)) := by
  unfold compTurn onward
  dsimp only
  rw [hg]
  have z : ((0 : Int) != 0) = false := rfl
  rcases hn with hn | ⟨t, i, fs, hn⟩
  · rw [hn]
    simp only [z, Bool.false_eq_true, if_false, bind_assoc, pure_bind]
    try rfl
  · rw [hn]
    simp only [z, Bool.false_eq_true, if_false, bind_assoc, pure_bind]
    try rfl
section
variable {prog : Program} {w : World} {A : Around} {R : Result → Shared → Prop} {s : Shared} {elt tg iter : Expr} {ifs : List Expr} {gs : List Comprehension} {scope : Scope} {pos : Pos} {d : Nat} {it acc : Value} {env : Env}
/-- a clause's loop, nothing raised -/
theorem loop_of (hg : gs[d]? = some ⟨tg, iter, ifs, 0⟩) (hn : Nextly gs (d + 1)) (I : Nat → Shared → Prop)
    (turn : ∀ n s, I n s → wpAny (model prog w) A (pyNext it) (fun r s1 => match r with
      | none => R (.ok .next) s1
      | some v => wpAny (model prog w) A (letOwnedTupleGo tg it v) (fun _ s2 => wpAny (model prog w) A (assign tg env v) (fun _ s3 =>
          wpAny (model prog w) A (forIn ifs true fun c r => if r = true then do let ok ← isTrue c env (eval c env); pure (ForInStep.yield ok) else pure (ForInStep.yield r)) (fun ok s4 =>
            if ok = true then wpAny (model prog w) A (onward elt gs scope pos (d + 1) acc env) (fun _ s5 => ∃ m, m < n ∧ I m s5) (fun _ _ => False) s4 else ∃ m, m < n ∧ I m s4) (fun _ _ => False) s3) (fun _ _ => False) s2) (fun _ _ => False) s1) (fun _ _ => False) s)
    (n : Nat) (h : I n s) : codeAny (model prog w) A (.compLoop (.ListComp elt gs scope pos) d it acc env) R s := by
  have no : ∀ (E : Value → Shared → Prop) (x : Value) (z : Shared), False → E x z := fun _ _ _ z => z.elim
  refine codeAny_loop rfl I (fun n s hI => ?_) n h
  show wpAny _ A ((compTurn (.ListComp elt gs scope pos) d it acc env).onRaise (fun x => do noteFrame x env; theTreesLotGoes x)) _ _ s
  refine wpAny_noted ?_
  rw [turn_of hg hn]
  refine wpAny_bind (wpAny_standAt (wpAny_bind (wpAny_mono (turn n s hI) (fun r s1 h1 => ?_) (no _))))
  cases r with
  | none => exact wpAny_pure h1
  | some v =>
    refine wpAny_bind (wpAny_mono h1 (fun _ s2 h2 => wpAny_bind (wpAny_mono h2 (fun _ s3 h3 => wpAny_bind (wpAny_mono h3 (fun b s4 h4 => ?_) (no _))) (no _))) (no _))
    cases b with
    | false => exact wpAny_pure ⟨rfl, h4⟩
    | true => exact wpAny_bind (wpAny_mono h4 (fun _ s5 h5 => wpAny_pure ⟨rfl, h5⟩) (no _))
theorem start_of (hg : gs[d]? = some ⟨tg, iter, ifs, 0⟩) (h0 : codeAny (model prog w) A (.compLoop (.ListComp elt gs scope pos) d it acc env) R s)
    (h : wpAny (model prog w) A (pyIter it) (fun it' s' => codeAny (model prog w) A (.compLoop (.ListComp elt gs scope pos) d it' acc env) R s') (fun _ _ => False) s) :
    codeAny (model prog w) A (.compStart (.ListComp elt gs scope pos) d it acc env) R s := by
  refine codeAny_of_tree ?_
  show wpAny _ _ ((compStart (.ListComp elt gs scope pos) d it acc env).onRaise (fun x => do noteFrame x env; standAt theWindowsPlace)) _ _ s
  refine wpAny_notedAt ?_
  unfold compStart
  have hc : clausesOf (.ListComp elt gs scope pos) = gs := rfl
  rw [hc, hg]
  show wpAny _ _ (ask >>= _) _ _ s
  refine wpAny_bind (wpAny_askSetting (wpAny_ite ?_))
  split
  · first
      | exact wpAny_bind (wpAny_pure (wpAny_pure (And.intro rfl h0)))
      | exact wpAny_pure (And.intro rfl h0)
  · refine wpAny_bind (wpAny_rule ?_)
    show wpAny _ _ (standAt iter.pos >>= _) _ _ s
    exact wpAny_bind (wpAny_standAt (wpAny_bind (wpAny_mono h (fun it' s' h' => wpAny_pure (And.intro rfl h')) fun _ _ x => x.elim)))
end
/-- from slots and heap to what is reached -/
abbrev TN := L2.St → Hp → (Hp → Prop) → Prop
/-- the onward step at depth d, the list at D, the slots vs its own -/
structure Does (Y : Cx) (elt : Expr) (gs : List Comprehension) (scope : Scope) (pos : Pos) (d : Nat) (D : Addr) (vs : List Nat) (t : TN) : Prop where
  run : ∀ (pins : List (Addr × Obj)) (s : Shared) (σ : L2.St) (H : Hp) (Nx : Hp → Prop) (R : Shared → Prop), Inv Y pins σ H s → t σ H Nx →
    (∀ s' σ' H', Inv Y pins σ' H' s' → σ'.length = σ.length → (∀ (i : Nat) v, i ∉ vs → σ[i]? = some (some v) → σ'[i]? = some (some v)) → Nx H' → R s') →
    wpAny (model Y.prog Y.w) Y.A (onward elt gs scope pos d (.ref D) Y.env) (fun _ => R) (fun _ _ => False) s
def tEmit (te : TE) (D : Addr) : TN := fun σ H Nx => te σ H fun y H4 => ∃ acc, H4 D = some (.lst acc) ∧ acc.length < sizeLine ∧ Nx (upd H4 D (.lst (acc ++ [y])))
def tLoop (g : TG) (tt : TT) (t : TN) (vs : List Nat) (J : It) : TN := fun σ H Nx => ∃ W : Nat → Nat → Hp → Prop, (∃ m, W 0 m H) ∧ ∀ j k H, W j k H →
  (J.stop j H ∧ Nx H) ∨ (J.go j H ∧ ∃ N1 : Hp → Prop, (∀ H', N1 H' → ∃ k', k' < k ∧ W (j + 1) k' H') ∧ ∀ x H', J.yld j H x H' → g x (wipe σ vs) H' fun σ3 H5 => wipe σ3 vs = wipe σ vs ∧ tt σ3 H5 fun b H6 =>
    if b = true then t σ3 H6 N1 else N1 H6)
/-- a further clause, and what stands behind it -/
def tFor (wi : TI) (g : TG) (tt : TT) (vs : List Nat) (t : Addr → TN) : Addr → TN := fun D σ H Nx => wi σ H fun J H4 => tLoop g tt (t D) vs J σ H4 Nx
section
variable {Y : Cx} {elt tg iter : Expr} {ifs : List Expr} {gs : List Comprehension} {scope : Scope} {pos : Pos} {d : Nat} {D : Addr} {g : TG} {tt : TT} {te : TE} {t : TN} {wi : TI} {vs vs1 : List Nat}
theorem does_emit (hg : gs[d]? = none) (hx : Y.xe = fun _ _ => False) (pe : PE Y elt te) : Does Y elt gs scope pos d D [] (tEmit te D) := by
  refine ⟨fun pins s σ H Nx R I h k => ?_⟩
  unfold onward
  rw [hg]
  refine wpAny_bind ?_
  have r := pe.run pins s σ H _ I h
  rw [hx] at r
  refine thnF r fun z s1 ⟨y, H1, I1, r1, acc, e, hz, nx⟩ => ?_
  exact wpAny_bind (app_ok I1 e hz r1 fun s2 I2 => wpAny_pure (k s2 σ _ I2 rfl (fun _ _ _ e => e) nx))
theorem loop_n (hg : gs[d]? = some ⟨tg, iter, ifs, 0⟩) (hn : Nextly gs (d + 1)) (hc : Y.calm = true) (hx : Y.xe = fun _ _ => False) (pg : PG Y tg g) (pt : PTs Y ifs tt) (dn : Does Y elt gs scope pos (d + 1) D vs1 t) (hv : ∀ i ∈ vs1, i ∈ vs)
    {pins : List (Addr × Obj)} {s : Shared} {σ : L2.St} {H : Hp} {Nx : Hp → Prop} {R : Result → Shared → Prop} {J : It} {fp : List Addr} {it : Addr} {tn : Nat → Heap → Prop} (I : Inv Y pins σ H s) (T : Turn Y.prog Y.w Y.K tg J fp it tn) (st : tn 0 s.heap) (hf : ∀ b ∈ fp, FpOk Y pins H b)
    (h : tLoop g tt t vs J σ H Nx) (fin : ∀ s' H', Inv Y pins (wipe σ vs) H' s' → Nx H' → R (.ok .next) s') :
    codeAny (model Y.prog Y.w) Y.A (.compLoop (.ListComp elt gs scope pos) d (.ref it) (.ref D) Y.env) R s := by
  obtain ⟨W, ⟨m0, w0⟩, turn⟩ := h
  have ok : ∀ {H' : Hp}, (∀ b ∈ fp, H' b = none) → ∀ b ∈ fp, FpOk Y pins H' b := fun hn b hb => ⟨hn b hb, (hf b hb).2⟩
  refine loop_of hg hn (fun n z => ∃ i H', Inv Y pins (wipe σ vs) H' z ∧ tn i z.heap ∧ (∀ b ∈ fp, H' b = none) ∧ W i n H') ?_ m0 ⟨0, H, I.weak (wipe_length _ _) fun _ _ e => (wipe_some e).1, st, fun b hb => (hf b hb).1, w0⟩
  rintro n z ⟨i, H1, I1, st1, n1, w1⟩
  rcases turn i n H1 w1 with ⟨stop, nx⟩ | ⟨go, N1, back, step⟩
  · refine thnF (T.done Y rfl rfl rfl hc i pins z _ H1 (fun _ _ => False) I1 (ok n1) st1 stop) fun r z2 ⟨hr, I2⟩ => ?_
    rw [hr]
    exact fin z2 H1 I2 nx
  · refine thnF (T.item Y rfl rfl rfl hc i pins z _ H1 (fun _ _ => False) I1 (ok n1) st1 go) fun r z2 ⟨u, hr, h2⟩ => ?_
    rw [hr]
    refine thnF h2 fun _ z3 ⟨x, H3, I3, r3, y3, st3, n3⟩ => ?_
    have J3 := I3.pinned (ok n3) (T.obj _ _ st3)
    have a := pg.run _ z3 _ H3 x u _ J3 r3 (step x H3 y3)
    rw [hx] at a
    refine thnF a fun _ z4 ⟨σ4, H4, I4, e4, q4⟩ => ?_
    have b := pt.run _ z4 σ4 H4 _ I4 q4
    rw [hx] at b
    refine thnF b fun ok5 z5 ⟨H5, I5, q5⟩ => ?_
    -- the end of a turn
    have fin1 : ∀ z6 σ6 H6, Inv Y (pins ++ pinsAt fp z3.heap) σ6 H6 z6 → σ6.length = σ4.length → (∀ (j : Nat) v, j ∉ vs1 → σ4[j]? = some (some v) → σ6[j]? = some (some v)) → N1 H6 → ∃ m, m < n ∧ ∃ i H', Inv Y pins (wipe σ vs) H' z6 ∧ tn i z6.heap ∧ (∀ b ∈ fp, H' b = none) ∧ W i m H' := fun z6 σ6 H6 I6 l6 k6 nx => by
      obtain ⟨m, lt, w6⟩ := back H6 nx
      have pin : ∀ b ∈ fp, ∀ o, z3.heap.get? b = some o → z6.heap.get? b = some o ∧ H6 b = none := fun b hb o e =>
        have q := I6.pin (b, o) (List.mem_append_right _ (List.mem_append_right _ (mem_pinsAt hb e)))
        ⟨q.1, q.2.1⟩
      refine ⟨m, lt, i + 1, H6, I6.unpinned.weak ?_ fun j v e => ?_, T.keep _ _ _ st3 fun b hb o e => (pin b hb o e).1, fun b hb => ?_, w6⟩
      · rw [l6, ← e4, wipe_length]
      · rw [← e4] at e
        obtain ⟨p, q⟩ := wipe_some e
        exact k6 j v (fun m => q (hv j m)) p
      · obtain ⟨o, e, _⟩ := T.obj _ _ st3 b hb
        exact (pin b hb o e).2
    cases ok5 with
    | false =>
      simp only [Bool.false_eq_true, if_false] at q5 ⊢
      exact fin1 z5 σ4 H5 I5 rfl (fun _ _ _ e => e) q5
    | true =>
      simp only [if_true] at q5 ⊢
      exact dn.run _ z5 σ4 H5 N1 _ I5 q5 fin1
theorem does_for {t : Addr → TN} (hg : gs[d]? = some ⟨tg, iter, ifs, 0⟩) (hn : Nextly gs (d + 1)) (hc : Y.calm = true) (hx : Y.xe = fun _ _ => False) (pi : PI Y tg iter wi) (hs : ∀ x, foldedSetIterable iter Y.env x = pure x) (pg : PG Y tg g) (pt : PTs Y ifs tt)
    (dn : Does Y elt gs scope pos (d + 1) D vs1 (t D)) (hv : ∀ i ∈ vs1, i ∈ vs) : Does Y elt gs scope pos d D vs (tFor wi g tt vs t D) := by
  refine ⟨fun pins s σ H Nx R I h k => ?_⟩
  unfold onward
  rw [hg]
  have r := pi.run pins s σ H _ I h
  rw [hx] at r
  refine wpAny_bind (thnF r fun v s1 h1 => wpAny_bind (wpAny_standAt ?_))
  dsimp only
  rw [show ((0 : Int) != 0) = false from rfl]
  simp only [Bool.false_eq_true, if_false]
  refine wpAny_bind (wpAny_of_eq (hs v) (wpAny_bind (wpAny_holding (thnF h1 fun itv s2 h2 => ?_))))
  obtain ⟨it, fp, tn, J, H2, e, I2, T, st2, f2, q⟩ := h2
  subst e
  have lp : codeAny (model Y.prog Y.w) Y.A (.compLoop (.ListComp elt gs scope pos) d (.ref it) (.ref D) Y.env) (fun r s' => match r with
      | .ok _ => R s'
      | .error _ => False) s2 :=
    loop_n hg hn hc hx pg pt dn hv I2 T st2 f2 q fun s' H' I' nx => k s' _ H' I' (wipe_length _ _) (fun i v hi e => by rw [wipe_out hi]; exact e) nx
  refine wpAny_bind (wpAny_runOwn ?_)
  rw [Around.mark_none]
  refine codeAny_mono (start_of hg lp (T.self Y.A 0 _ _ _ st2 lp)) fun r s' hr => ?_
  cases r with
  | ok f => exact wpAny_pure hr
  | error e => exact hr.elim
end
section
variable {X : Cx} {elt tg iter : Expr} {ifs : List Expr} {rest : List Comprehension} {scope : Scope} {own : List (Str × Nat)} {pos : Pos} {g : TG} {tt : TT} {wi : TI} {vs1 : List Nat} {t : Addr → TN}
/-- [elt for tg in iter if .. for ..]; t: what stands behind the first clause -/
def tLcN (wi : TI) (g : TG) (tt : TT) (t : Addr → TN) (vs : List Nat) : TE := fun σ H Q => wi σ H fun J H1 => ∀ D, H1 D = none → tLoop g tt (t D) vs J (wipe σ vs) (upd H1 D (.lst [])) (Q (.ref D))
theorem lcN_core {pins : List (Addr × Obj)} {s : Shared} {σ : L2.St} {H : Hp} {Q : VK} {pos' : Pos} {use : Option (Value → Sem Unit)} {Qf : Value → Shared → Prop} (hc : X.calm = true) (hN : X.N.Nodup) (hi : PI X tg iter wi) (ok : BlkOk X.N X.env.scope scope own) (hn : Nextly (⟨tg, iter, ifs, 0⟩ :: rest) 1) (hv : ∀ i ∈ vs1, i ∈ own.map (·.2))
    (hg : ∀ (s : Shared) (H : Hp) (C : Addr) (cl : List (Str × Addr)) (fp : List Addr), PG (X.blk s H scope (compEnvC scope cl C X.env) fp) tg g) (ht : ∀ (s : Shared) (H : Hp) (C : Addr) (cl : List (Str × Addr)) (fp : List Addr), PTs (X.blk s H scope (compEnvC scope cl C X.env) fp) ifs tt)
    (hd : ∀ (s : Shared) (H : Hp) (C : Addr) (cl : List (Str × Addr)) (fp : List Addr) (D : Addr), Does (X.blk s H scope (compEnvC scope cl C X.env) fp) elt (⟨tg, iter, ifs, 0⟩ :: rest) scope pos 1 D vs1 (t D)) (hs : ∀ x, foldedSetIterable iter X.env x = pure x)
    (I : Inv X pins σ H s) (h : tLcN wi g tt t (own.map (·.2)) σ H Q) (done : ∀ D C s' m H', Inv X pins σ H' s' → Q (.ref D) H' → s'.heap.Ns C m → FpOk X pins H' C → compPost (model X.prog X.w) X.A X.xe use Qf (.ref D) C (.ok .next) s') :
    wpAny (model X.prog X.w) X.A (comprehension (.ListComp elt (⟨tg, iter, ifs, 0⟩ :: rest) scope pos) scope X.env pos' (newList []) false (eval iter X.env) use) Qf X.xe s := by
  have cl : closureFor scope X.env = pure (cloFrom X.env.cells scope.names []) := closure_ok fun y hy e => I.ok.has _ (ok.free y hy e)
  refine wpAny_comprehension_free (use := use) rfl hs cl ok.kind (fun y hy e => (ok.uniq y hy).trans (by rw [e])) (thn (hi.run pins s σ H _ I h) fun xv s1 h1 => thn h1 fun itv s2 h2 => ?_)
  obtain ⟨it, fp, tn, J, H2, rfl, I2, T, st2, f2, q⟩ := h2
  refine wpAny_newObj_type (newEnv_comp ?_) (Nat.zero_le _)
  have q := q s2.heap.objs.size (I2.hok.fresh (Nat.le_refl _))
  have lt : ∀ b ∈ fp, b < s2.heap.objs.size := fun b hb => by
    obtain ⟨o, e, _⟩ := T.obj _ _ st2 b hb
    exact Heap.lt_size e
  have new : ∀ b o, s2.heap.get? b = some o → (s2.heap.push { cls := .type "list", data := .seq ([] : List Value).toArray }).get? b = some o := fun b o e => Heap.get?_push_of_some _ e
  -- the list is there
  have I3 := I2.laid (t' := s2.toks) (o := .lst []) (a := s2.heap.objs.size) new (Nat.le_refl _) ⟨Nat.zero_le _, [], 0, .nil, Heap.get?_push_size _ rfl⟩
  have f3 : ∀ b ∈ fp, FpOk X pins (upd H2 s2.heap.objs.size (.lst [])) b := fun b hb => ⟨by rw [upd_ne (Nat.ne_of_lt (lt b hb))]; exact (f2 b hb).1, (f2 b hb).2⟩
  have st3 := T.keep _ _ _ st2 fun b _ o e => new b o e
  generalize s2.heap.objs.size = D at q I3 f3 lt ⊢
  generalize upd H2 D (.lst []) = H3 at q I3 f3 ⊢
  have lt3 : ∀ b ∈ fp, b < (s2.heap.push { cls := .type "list", data := .seq ([] : List Value).toArray }).objs.size := fun b hb => by
    obtain ⟨o, e, _⟩ := T.obj _ _ st3 b hb
    exact Heap.lt_size e
  change Inv X pins σ H3 { s2 with heap := s2.heap.push { cls := .type "list", data := .seq ([] : List Value).toArray } } at I3
  generalize hz : ({ s2 with heap := s2.heap.push { cls := .type "list", data := .seq ([] : List Value).toArray } } : Shared) = z at I3 ⊢
  have ez : s2.heap.push { cls := .type "list", data := .seq ([] : List Value).toArray } = z.heap := by rw [← hz]
  rw [ez] at st3 lt3
  have I4 := block_start I3 ok hN fun b hb => ⟨f3 b hb, lt3 b hb⟩
  have st4 := T.keep 0 _ (pushCells (z.heap.push { cls := .type "dict", data := .dict #[] }) scope.names) st3 fun b _ o e => pushCells_keeps _ _ _ _ (Heap.get?_push_of_some _ e)
  have pg := hg z H3 z.heap.objs.size (cellsFrom (z.heap.objs.size + 1) scope.names (cloFrom X.env.cells scope.names [])) fp
  have pt := ht z H3 z.heap.objs.size (cellsFrom (z.heap.objs.size + 1) scope.names (cloFrom X.env.cells scope.names [])) fp
  have pd := hd z H3 z.heap.objs.size (cellsFrom (z.heap.objs.size + 1) scope.names (cloFrom X.env.cells scope.names [])) fp D
  change codeAny (model X.prog X.w) X.A (.compStart _ 0 (.ref it) (.ref D) (compEnvC scope (cellsFrom (z.heap.objs.size + 1) scope.names (cloFrom X.env.cells scope.names [])) z.heap.objs.size X.env)) (compPost (model X.prog X.w) X.A X.xe use Qf (.ref D) z.heap.objs.size) { z with heap := pushCells (z.heap.push { cls := .type "dict", data := .dict #[] }) scope.names }
  have fY : ∀ b ∈ fp, FpOk (X.blk z H3 scope (compEnvC scope (cellsFrom (z.heap.objs.size + 1) scope.names (cloFrom X.env.cells scope.names [])) z.heap.objs.size X.env) fp) [] H3 b := fun b hb =>
    ⟨(f3 b hb).1, (I4.ok.exf b hb).1, I4.ok.exfs b hb, .inl hb, fun x c e => (I4.ok.exf b hb).2 x c e, fun p hp => nomatch (show p ∈ ([] : List (Addr × Obj)) from by simpa using hp)⟩
  have free : X.calm = true := hc
  have lp := loop_n (Y := X.blk z H3 scope (compEnvC scope (cellsFrom (z.heap.objs.size + 1) scope.names (cloFrom X.env.cells scope.names [])) z.heap.objs.size X.env) fp) (R := compPost (model X.prog X.w) X.A X.xe use Qf (.ref D) z.heap.objs.size) rfl hn hc rfl pg pt pd hv I4 T st4 fY q fun s' H' I' q' => by
    have J : Inv X pins σ H' s' := I3.call' (ch := fp) I'.os I'.base I'.hok I'.bare fun b hb =>
      have f := f3 b hb
      ⟨f.2.2.2.1, f.2.1, f.2.2.2.2.1, f.2.2.2.2.2⟩
    obtain ⟨m, ns, _⟩ := I'.loc
    have f := I3.fpOk (b := z.heap.objs.size) (H' := H') (Nat.le_refl _) I'.free
    exact done D _ s' m H' J q' ns f
  exact codeAny_compStart_list lp (T.self X.A 0 _ _ _ st4 lp)
theorem pe_lcN (hc : X.calm = true) (hN : X.N.Nodup) (hi : PI X tg iter wi) (ok : BlkOk X.N X.env.scope scope own) (hn : Nextly (⟨tg, iter, ifs, 0⟩ :: rest) 1) (hv : ∀ i ∈ vs1, i ∈ own.map (·.2))
    (hg : ∀ (s : Shared) (H : Hp) (C : Addr) (cl : List (Str × Addr)) (fp : List Addr), PG (X.blk s H scope (compEnvC scope cl C X.env) fp) tg g) (ht : ∀ (s : Shared) (H : Hp) (C : Addr) (cl : List (Str × Addr)) (fp : List Addr), PTs (X.blk s H scope (compEnvC scope cl C X.env) fp) ifs tt)
    (hd : ∀ (s : Shared) (H : Hp) (C : Addr) (cl : List (Str × Addr)) (fp : List Addr) (D : Addr), Does (X.blk s H scope (compEnvC scope cl C X.env) fp) elt (⟨tg, iter, ifs, 0⟩ :: rest) scope pos 1 D vs1 (t D)) (hs : ∀ x, foldedSetIterable iter X.env x = pure x := by intro _; rfl) :
    PE X (.ListComp elt (⟨tg, iter, ifs, 0⟩ :: rest) scope pos) (tLcN wi g tt t (own.map (·.2))) := by
  refine ⟨fun pins s σ H Q I h => ?_⟩
  rw [eval_ListComp]
  refine lcN_core hc hN hi ok hn hv hg ht hd hs I h fun D C s' m H' J q ns f => ⟨m, ns, fun h sb => ⟨.ref D, H', J.turned (t' := s'.toks) (fun b o hb e => (sb.2 b hb).trans e) f.1 f.2.1 f.2.2.2.1 f.2.2.2.2.1 f.2.2.2.2.2, rfl, q⟩⟩
/-- y = [..] on one line, y a local -/
theorem ps_setLcN {i : Nat} {y : Str} {py spos : Pos} (hc : X.calm = true) (hN : X.N.Nodup) (hy : X.N[i]? = some y) (hyl : X.env.scope.names.lookup y = some .local)
    (hsw : swapsWith (.ListComp elt (⟨tg, iter, ifs, 0⟩ :: rest) scope pos) (some (.Name y py)) spos.line X.env = pure true) (hi : PI X tg iter wi) (ok : BlkOk X.N X.env.scope scope own) (hn : Nextly (⟨tg, iter, ifs, 0⟩ :: rest) 1) (hv : ∀ i ∈ vs1, i ∈ own.map (·.2))
    (hg : ∀ (s : Shared) (H : Hp) (C : Addr) (cl : List (Str × Addr)) (fp : List Addr), PG (X.blk s H scope (compEnvC scope cl C X.env) fp) tg g) (ht : ∀ (s : Shared) (H : Hp) (C : Addr) (cl : List (Str × Addr)) (fp : List Addr), PTs (X.blk s H scope (compEnvC scope cl C X.env) fp) ifs tt)
    (hd : ∀ (s : Shared) (H : Hp) (C : Addr) (cl : List (Str × Addr)) (fp : List Addr) (D : Addr), Does (X.blk s H scope (compEnvC scope cl C X.env) fp) elt (⟨tg, iter, ifs, 0⟩ :: rest) scope pos 1 D vs1 (t D)) (hs : ∀ x, foldedSetIterable iter X.env x = pure x := by intro _; rfl) :
    PS X (.Assign [.Name y py] (.ListComp elt (⟨tg, iter, ifs, 0⟩ :: rest) scope pos) spos) (tAsg (tLcN wi g tt t (own.map (·.2))) (gName i)) := by
  refine ⟨fun pins s σ H D I h => ?_⟩
  rw [exec_Assign_Name_used _ _ _ _ hsw]
  refine wpAny_bind (wpAny_standAt (wpAny_bind (m := comprehension _ scope X.env _ (newList []) false (eval iter X.env) (some (assign (.Name y py) X.env)) >>= fun _ => pure ()) ?_))
  refine wpAny_bind (thn (lcN_core (Q := fun x H1 => gName i x σ H1 D.nx) (Qf := fun _ z => SP X pins D .next z) hc hN hi ok hn hv hg ht hd hs I h fun L C s1 m H1 J q ns f => ?_) fun _ z hq => wpAny_pure (wpAny_pure hq))
  show wpAny _ _ (assign (.Name y py) X.env (.ref L)) _ _ _
  refine wpAny_assign_Name (store_ok2 (v := V.ref L) J hN hy (.inl hyl) rfl (fun s2 J2 ⟨a, sb, ha⟩ => ?_) (.inr hyl))
  have ne : C ≠ a := ha.elim (fun z => by rw [z]; exact f.2.1) fun z e => f.2.2.2.2.1 y a z e.symm
  exact ⟨m, ns.sameBut sb ne, fun h3 sb3 => ⟨_, H1, J2.turned (t' := s2.toks) (fun b o hb e => (sb3.2 b hb).trans e) f.1 f.2.1 f.2.2.2.1 f.2.2.2.2.1 f.2.2.2.2.2, q⟩⟩
end
section
variable {J : It} {n : Nat} {G : Hp → Prop} {Yl : Nat → Hp → V → Hp → Prop} {g : TG} {tt : TT} {t : TN} {vs : List Nat} {σ : L2.St} {H : Hp} {Nx : Hp → Prop}
/-- a clause's turns, by what holds after each; τ: the slots ahead of a turn, written out -/
theorem lp_it (τ : L2.St) (ht : wipe σ vs = τ) (w : L2.Walk J n G Yl) (Pv : Nat → Hp → Prop) (h0 : Pv 0 H) (hG : ∀ i H, i ≤ n → Pv i H → G H)
    (hs : ∀ i x H H', i < n → Pv i H → Yl i H x H' → g x τ H' fun σ3 H5 => wipe σ3 vs = τ ∧ tt σ3 H5 fun b H6 => if b = true then t σ3 H6 (Pv (i + 1)) else Pv (i + 1) H6) (hd : ∀ H, Pv n H → Nx H) :
    tLoop g tt t vs J σ H Nx := by
  subst ht
  refine ⟨fun i m H => m + i = n ∧ Pv i H, ⟨n, rfl, h0⟩, fun i m H ⟨e, p⟩ => ?_⟩
  have q := hG i H (by omega) p
  by_cases c : i = n
  · subst c
    exact .inl ⟨w.stops H q, hd H p⟩
  · exact .inr ⟨w.goes i H (by omega) q, Pv (i + 1), fun H' p' => ⟨m - 1, by omega, by omega, p'⟩, fun x H' y => hs i x H H' (by omega) p (w.yields i H x H' (by omega) q y)⟩
end
end Own

/-! zip over a text and a tuple -/
namespace Own
open PySem PySem.Spec PyProof.Rows L2 PySem.Froz
/-- an iterator that is drawn from by zip: n items; At i k: k of them have come from the one at i; keep: what else it rests on -/
structure Draws (P : Program) (w : World) (n : Nat) (itm : Nat → Value → Prop) (At : Addr → Nat → Heap → Prop) (rest : Addr → Prop) : Prop where
  keep : ∀ i k h h', At i k h → (∀ b o, b = i ∨ rest b → h.get? b = some o → h'.get? b = some o) → At i k h'
  has : ∀ i k h, At i k h → ∃ o, h.get? i = some o ∧ ∀ v, o.data ≠ .cell v
  item : ∀ (A : Around) (E : Value → Shared → Prop) (s : Shared) (Q : Value → Shared → Prop) i k, k < n → At i k s.heap → ¬ rest i → (∀ v h' tk, itm k v → At i (k + 1) h' → Heap.SameBut i s.heap h' → Q v { s with heap := h', toks := tk }) →
    wpAny (model P w) A (Builtin.SmallTypes.nextOf (.ref i)) Q E s
  stop : ∀ (A : Around) (E : Value → Shared → Prop) (s : Shared) (Q : Value → Shared → Prop) i, A.handled = none → At i n s.heap → (∀ h' e, Heap.ExtBut i s.heap h' → (∃ o, h'.get? e = some o ∧ o.cls = .type "StopIteration") → E (.ref e) { s with heap := h' }) →
    wpAny (model P w) A (Builtin.SmallTypes.nextOf (.ref i)) Q E s
/-- a text's letters -/
theorem draws_text (P : Program) (w : World) (x : Str) (u : Tok) : Draws P w x.cps.size (fun k v => ∃ c t, x.cps[k]? = some c ∧ v = .str (sing c) t) (fun i k h => h.get? i = some (itObj x u k)) (fun _ => False) where
  keep := fun i k h h' e kk => kk i _ (.inl rfl) e
  has := fun i k h e => ⟨_, e, fun v z => nomatch z⟩
  item := fun A E s Q i k lt ho _ q => by
    obtain ⟨c, hc⟩ : ∃ c, x.cps[k]? = some c := ⟨_, Array.getElem?_eq_getElem lt⟩
    have hT : s.TypeIs (.ref i) "str_ascii_iterator" := ⟨_, ho, rfl⟩
    have hd : (itObj x u k).data = .fields #[.str x u, .int k 0] := rfl
    unfold Builtin.SmallTypes.nextOf
    refine wpAny_bind (wpAny_callSpecial?_slot (name := Str.ofString "__next__") hT F.slot_str_ascii_iterator_next
      (wpAny_call_entry F.slot_str_ascii_iterator_next hT F.entry_str_ascii_iterator_next ?_ (F.args_str_ascii_iterator_next_1 _)))
    refine wpAny_bind (m := field (.ref i) 0) (wpAny_field ho hd (x := .str x u) rfl ?_)
    refine wpAny_bind (m := field (.ref i) 1) (wpAny_field ho hd (x := .int k 0) rfl ?_)
    simp only [Int.toNat_natCast, hc]
    refine wpAny_bind (wpAny_setField ho hd (by simp) (wpAny_bind (wpAny_mkStr (wpAny_pure ⟨_, rfl, wpAny_pure (q _ _ _ ⟨c, _, hc, rfl⟩ ?_ (Heap.SameBut.update ..))⟩) (by show 1 ≤ sizeLine; decide))))
    have e := upd_const (Obj.mapFields (fun vs => vs.setIfInBounds 1 (rawInt ((k : Int) + 1)))) ho
    show (s.heap.update i (Obj.mapFields (fun vs => vs.setIfInBounds 1 (rawInt ((k : Int) + 1))))).get? i = _
    rw [e, it_step x u k]
    exact get_upd _ ho rfl
  stop := fun A E s Q i hh ho q => by
    have hc : x.cps[x.cps.size]? = none := by simp
    have hT : s.TypeIs (.ref i) "str_ascii_iterator" := ⟨_, ho, rfl⟩
    have hd : (itObj x u x.cps.size).data = .fields #[.str x u, .int x.cps.size 0] := rfl
    unfold Builtin.SmallTypes.nextOf
    refine wpAny_bind (wpAny_callSpecial?_slot (name := Str.ofString "__next__") hT F.slot_str_ascii_iterator_next
      (wpAny_call_entry F.slot_str_ascii_iterator_next hT F.entry_str_ascii_iterator_next ?_ (F.args_str_ascii_iterator_next_1 _)))
    refine wpAny_bind (m := field (.ref i) 0) (wpAny_field ho hd (x := .str x u) rfl ?_)
    refine wpAny_bind (m := field (.ref i) 1) (wpAny_field ho hd (x := .int x.cps.size 0) rfl ?_)
    simp only [Int.toNat_natCast, hc]
    refine wpAny_bind (wpAny_rule (wpAny_bind (wpAny_setField ho hd (by simp) (wpAny_bind (wpAny_letGo ?_)))))
    refine wpAny_bind (m := newExc (.type "StopIteration") []) ?_
    simp only [newExc, newTuple]
    refine wpAny_bind (wpAny_newObj_type ?_ (by size_fits))
    refine wpAny_bind (m := firstArgMember _ _) (wpAny_of_eq (a := Value.none) (by first | rfl | (simp only [firstArgMember]; rfl)) (wpAny_newObj_type ?_ (by size_fits)))
    simp only [raiseNew]
    refine wpAny_bind (wpAny_handled ?_)
    first | rw [show A.in1.handled = none from hh] | rw [hh]
    exact wpAny_bind (wpAny_pure (wpAny_throw (q _ _ (((Heap.SameBut.update ..).extBut.push _).push _) ⟨_, Heap.get?_push_size _ rfl, rfl⟩)))
/-- a tuple's items -/
theorem draws_tup (P : Program) (w : World) (l : Addr) (items : Array Value) : Draws P w items.size (fun k v => items[k]? = some v) (fun i k h => h.IsTupleIter i l k ∧ h.IsTuple l items ∧ l ≠ i) (fun b => b = l) where
  keep := fun i k h h' e kk => ⟨e.1.at fun o z => kk i o (.inl rfl) z, (by
    obtain ⟨_, ⟨o, z, r⟩, _⟩ := e
    exact ⟨o, kk l o (.inr rfl) z, r⟩), e.2.2⟩
  has := fun i k h e => by
    obtain ⟨⟨o, z, _, d⟩, _⟩ := e
    exact ⟨o, z, fun v y => by rw [d] at y; cases y⟩
  item := fun A E s Q i k lt ho _ q => RZ.nextOf_tuple_item ho.1 ho.2.1 (Array.getElem?_eq_getElem lt) fun h' it sb => q _ h' s.toks (Array.getElem?_eq_getElem lt) ⟨it, (by
    obtain ⟨o, z, r⟩ := ho.2.1
    exact ⟨o, (sb.2 l ho.2.2).trans z, r⟩), ho.2.2⟩ sb
  stop := fun A E s Q i hh ho q => RZ.nextOf_tuple_end hh ho.1 ho.2.1 (by simp) q
/-- the places of a zip's turning are unlike; what its sources rest on is elsewhere -/
structure Far (z TI TO i1 i2 : Addr) (r1 r2 : Addr → Prop) : Prop where
  a : TI ≠ z
  b : TO ≠ z
  c : i1 ≠ z
  d : i2 ≠ z
  e : TI ≠ TO
  f : TI ≠ i1
  g : TI ≠ i2
  h : TO ≠ i1
  i : TO ≠ i2
  j : i1 ≠ i2
  r : ∀ q, r1 q ∨ r2 q → q ≠ z ∧ q ≠ TO ∧ q ≠ i1 ∧ q ≠ i2
section
variable {P : Program} {w : World} {A : Around} {E : Value → Shared → Prop} {s : Shared} {n1 n2 k : Nat} {it1 it2 : Nat → Value → Prop} {At1 At2 : Addr → Nat → Heap → Prop} {r1 r2 : Addr → Prop} {z TI TO i1 i2 : Addr} {x0 y0 : Value}
/-- both have an item -/
theorem zip_item (D1 : Draws P w n1 it1 At1 r1) (D2 : Draws P w n2 it2 At2 r2) (F : Far z TI TO i1 i2 r1 r2) (hz : IsZip s.heap z TI TO .none) (hI : IsPair s.heap TI (.ref i1) (.ref i2)) (hO : IsPair s.heap TO x0 y0) (h1 : At1 i1 k s.heap) (h2 : At2 i2 k s.heap) (l1 : k < n1) (l2 : k < n2)
    {Q : Value → Shared → Prop} (q : ∀ (h' : Heap) tk v1 v2, it1 k v1 → it2 k v2 → IsZip h' z TI TO (rawInt s.heap.objs.size) → IsPair h' TO v1 v2 → At1 i1 (k + 1) h' → At2 i2 (k + 1) h' → IsPair h' s.heap.objs.size v1 v2 →
      (∀ c o, c ≠ z → c ≠ TO → c ≠ i1 → c ≠ i2 → s.heap.get? c = some o → h'.get? c = some o) → Q (.ref s.heap.objs.size) { s with heap := h', toks := tk }) :
    wpAny (model P w) A (Builtin.«zip.__next__» ⟨[.ref z], []⟩) (fun fin s' => ∃ v, fin = .done (.ret v) ∧ Q v s') E s := by
  have n1r : ¬ r1 i1 := fun z => (F.r i1 (.inl z)).2.2.1 rfl
  have n2r : ¬ r2 i2 := fun z => (F.r i2 (.inr z)).2.2.2 rfl
  refine wpAny_bind (m := field (.ref z) 2) (wpAny_field hz rfl (x := .bool false) rfl ?_)
  refine wpAny_bind (m := field (.ref z) 3) (wpAny_field hz rfl (x := .ref TI) rfl ?_)
  refine wpAny_bind (wpAny_seqItems hI rfl ?_)
  refine wpAny_bind (m := Builtin.SmallTypes.ownedTupleIsFree (.ref z)) ?_
  unfold Builtin.SmallTypes.ownedTupleIsFree
  refine wpAny_bind (wpAny_field hz rfl (x := .none) rfl (wpAny_pure ?_))
  simp only [if_true]
  refine wpAny_bind (wpAny_rule (wpAny_bind (wpAny_field hz rfl (x := .ref TO) rfl (wpAny_bind (wpAny_setField_rec hz (by simp) fun ha za sa => ?_)))))
  replace za : IsZip ha z TI TO .ellipsis := za
  refine wpAny_bind ?_
  simp only [List.zipIdx_cons, List.zipIdx_nil, List.forIn_cons, List.forIn_nil]
  -- the first
  refine wpAny_bind (wpAny_bind (wpAny_onRaise (wpAny_bind (m := Builtin.SmallTypes.nextOf (.ref i1)) ?_)))
  refine D1.item _ _ { s with heap := ha } _ i1 k l1 (D1.keep _ _ _ _ h1 fun b o hb e => (sa.2 b (hb.elim (fun e => e ▸ F.c) fun r => (F.r b (.inl r)).1)).trans e) n1r fun v1 hb tb p1 a1 sb => wpAny_pure ?_
  have Ob : IsPair hb TO x0 y0 := (sb.2 TO F.h).trans ((sa.2 TO F.b).trans hO)
  refine wpAny_bind (wpAny_seqItems Ob rfl (wpAny_bind (wpAny_updateSeq_pair Ob fun hc Oc sc => wpAny_bind (wpAny_letGo (wpAny_pure ?_)))))
  replace Oc : IsPair hc TO v1 y0 := Oc
  -- the second
  refine wpAny_bind (wpAny_bind (wpAny_onRaise (wpAny_bind (m := Builtin.SmallTypes.nextOf (.ref i2)) ?_)))
  have h2c : At2 i2 k hc := D2.keep _ _ _ _ h2 fun b o hb e => by
    have f : b ≠ z ∧ b ≠ TO ∧ b ≠ i1 := hb.elim (fun e => by rw [e]; exact ⟨F.d, F.i.symm, F.j.symm⟩) fun r => have g := F.r b (.inr r); ⟨g.1, g.2.1, g.2.2.1⟩
    exact (sc.2 b f.2.1).trans ((sb.2 b f.2.2).trans ((sa.2 b f.1).trans e))
  refine D2.item _ _ { s with heap := hc, toks := tb } _ i2 k l2 h2c n2r fun v2 hd td p2 a2 sd => wpAny_pure ?_
  have Od : IsPair hd TO v1 y0 := (sd.2 TO F.i).trans Oc
  refine wpAny_bind (wpAny_seqItems Od rfl (wpAny_bind (wpAny_updateSeq_pair Od fun he Oe se => wpAny_bind (wpAny_letGo (wpAny_pure (wpAny_pure ?_))))))
  replace Oe : IsPair he TO v1 v2 := Oe
  refine wpAny_bind (wpAny_seqItems Oe rfl (wpAny_bind (wpAny_newTuple ?_)))
  have sz : he.objs.size = s.heap.objs.size := by rw [se.1, sd.1, sc.1, sb.1, sa.1]
  -- what stands as before
  have kp : ∀ c o, c ≠ z → c ≠ TO → c ≠ i1 → c ≠ i2 → s.heap.get? c = some o → he.get? c = some o := fun c o c1 c2 c3 c4 e => (se.2 c c2).trans ((sd.2 c c4).trans ((sc.2 c c2).trans ((sb.2 c c3).trans ((sa.2 c c1).trans e))))
  have ze : IsZip he z TI TO .ellipsis := (se.2 z F.b.symm).trans ((sd.2 z F.d.symm).trans ((sc.2 z F.b.symm).trans ((sb.2 z F.c.symm).trans za)))
  have a1e : At1 i1 (k + 1) he := D1.keep _ _ _ _ a1 fun b o hb e => by
    have f : b ≠ TO ∧ b ≠ i2 := hb.elim (fun e => by rw [e]; exact ⟨F.h.symm, F.j⟩) fun r => have g := F.r b (.inl r); ⟨g.2.1, g.2.2.2⟩
    exact (se.2 b f.1).trans ((sd.2 b f.2).trans ((sc.2 b f.1).trans e))
  have a2e : At2 i2 (k + 1) he := D2.keep _ _ _ _ a2 fun b o hb e => by
    have f : b ≠ TO := hb.elim (fun e => by rw [e]; exact F.i.symm) fun r => (F.r b (.inr r)).2.1
    exact (se.2 b f).trans e
  refine wpAny_bind (m := Builtin.SmallTypes.ownedTupleHandOut (.ref z) (.ref he.objs.size)) ?_
  unfold Builtin.SmallTypes.ownedTupleHandOut
  have zf : IsZip (he.push { cls := .type "tuple", data := .seq #[v1, v2] }) z TI TO .ellipsis := Heap.get?_push_of_some _ ze
  refine wpAny_bind (wpAny_setField_rec zf (by simp) fun hg zg sg => ?_)
  replace zg : IsZip hg z TI TO (rawInt he.objs.size) := zg
  refine wpAny_setField_rec zg (by simp) fun hh zh sh => ?_
  replace zh : IsZip hh z TI TO (rawInt he.objs.size) := zh
  have up : ∀ c o, c ≠ z → he.get? c = some o → hh.get? c = some o := fun c o c1 e => (sh.2 c c1).trans ((sg.2 c c1).trans (Heap.get?_push_of_some _ e))
  have zlt : z < he.objs.size := Heap.lt_size ze
  have new : IsPair hh he.objs.size v1 v2 := (sh.2 _ (Nat.ne_of_gt zlt)).trans ((sg.2 _ (Nat.ne_of_gt zlt)).trans (Heap.get?_push_size _ rfl))
  rw [sz] at zh new
  refine wpAny_pure ⟨_, rfl, ?_⟩
  show Q (.ref he.objs.size) _
  rw [sz]
  refine q hh _ v1 v2 p1 p2 zh (up _ _ F.b Oe) (D1.keep _ _ _ _ a1e fun b o hb e => up b o (hb.elim (fun e => e ▸ F.c) fun r => (F.r b (.inl r)).1) e) (D2.keep _ _ _ _ a2e fun b o hb e => up b o (hb.elim (fun e => e ▸ F.d) fun r => (F.r b (.inr r)).1) e) new fun c o c1 c2 c3 c4 e => up c o c1 (kp c o c1 c2 c3 c4 e)
/-- the first is at its end -/
theorem zip_stop (D1 : Draws P w n1 it1 At1 r1) (F : Far z TI TO i1 i2 r1 r2) (hh : A.handled = none) (hz : IsZip s.heap z TI TO .none) (hI : IsPair s.heap TI (.ref i1) (.ref i2)) (h1 : At1 i1 n1 s.heap)
    {Q : Fin → Shared → Prop} (q : ∀ (h' : Heap) e, (∀ c o, c ≠ z → c ≠ TO → c ≠ i1 → c ≠ i2 → s.heap.get? c = some o → h'.get? c = some o) → (∃ o, h'.get? e = some o ∧ o.cls = .type "StopIteration") → E (.ref e) { s with heap := h' }) :
    wpAny (model P w) A (Builtin.«zip.__next__» ⟨[.ref z], []⟩) Q E s := by
  refine wpAny_bind (m := field (.ref z) 2) (wpAny_field hz rfl (x := .bool false) rfl ?_)
  refine wpAny_bind (m := field (.ref z) 3) (wpAny_field hz rfl (x := .ref TI) rfl ?_)
  refine wpAny_bind (wpAny_seqItems hI rfl ?_)
  refine wpAny_bind (m := Builtin.SmallTypes.ownedTupleIsFree (.ref z)) ?_
  unfold Builtin.SmallTypes.ownedTupleIsFree
  refine wpAny_bind (wpAny_field hz rfl (x := .none) rfl (wpAny_pure ?_))
  simp only [if_true]
  refine wpAny_bind (wpAny_rule (wpAny_bind (wpAny_field hz rfl (x := .ref TO) rfl (wpAny_bind (wpAny_setField_rec hz (by simp) fun ha za sa => ?_)))))
  replace za : IsZip ha z TI TO .ellipsis := za
  refine wpAny_bind ?_
  simp only [List.zipIdx_cons, List.zipIdx_nil, List.forIn_cons, List.forIn_nil]
  refine wpAny_bind (wpAny_bind (wpAny_onRaise (wpAny_bind (m := Builtin.SmallTypes.nextOf (.ref i1)) ?_)))
  refine D1.stop _ _ { s with heap := ha } _ i1 hh (D1.keep _ _ _ _ h1 fun b o hb e => (sa.2 b (hb.elim (fun e => e ▸ F.c) fun r => (F.r b (.inl r)).1)).trans e) fun hb e kb ⟨o, ho, co⟩ => ?_
  have zb : IsZip hb z TI TO .ellipsis := kb z _ F.c.symm za
  have ne : e ≠ z := fun x => by
    rw [x, zb] at ho
    cases ho
    simp at co
  exact wpAny_setField_rec zb (by simp) fun hc zc sc => q hc e (fun c o c1 _ c3 _ x => (sc.2 c c1).trans (kb c o c3 ((sa.2 c c1).trans x))) ⟨o, (sc.2 e ne).trans ho, co⟩
end
end Own

namespace Own
open PySem PySem.Spec PyProof.Rows L2 PySem.Froz
abbrev zs1 (h : Heap) (x : Str) (u : Tok) : Heap := h.push (itObj x u 0)
abbrev zs2 (h : Heap) (x : Str) (u : Tok) (l : Addr) : Heap := (zs1 h x u).push { cls := .type "tuple_iterator", data := .fields #[.ref l, .int 0 0] }
abbrev zs3 (h : Heap) (x : Str) (u : Tok) (l : Addr) : Heap := (zs2 h x u l).push { cls := .type "tuple", data := .seq #[.ref h.objs.size, .ref (zs1 h x u).objs.size] }
abbrev zs4 (h : Heap) (x : Str) (u : Tok) (l : Addr) : Heap := (zs3 h x u l).push { cls := .type "tuple", data := .seq #[.none, .none] }
abbrev zs5 (h : Heap) (x : Str) (u : Tok) (l : Addr) : Heap := (zs4 h x u l).push { cls := .type "zip", data := .fields #[.none, .bool false, .bool false, .ref (zs2 h x u l).objs.size, .ref (zs3 h x u l).objs.size] }
theorem zip_made (x : Str) (u : Tok) (l : Addr) (ys : Array Value) (ha : x.cps.all (· < 128) = true) :
    Meets (Builtin.«zip.__new__» ⟨[.type "zip", .str x u, .ref l], []⟩) (fun _ R s => s.heap.IsTuple l ys ∧ R (.ok (.ret (.ref (zs4 s.heap x u l).objs.size))) { s with heap := zs5 s.heap x u l }) :=
  .of_wp fun prog w A R s h => by
    obtain ⟨hp, g, d, tk, os⟩ := s
    obtain ⟨hl, h⟩ := h
    have hsub := sub_zip
    have hL : Heap.IsTuple (Shared.heap ⟨hp.push { cls := .type "str_ascii_iterator", data := .fields #[.str x u, .int 0 0] }, g, d, tk, os⟩) l ys := Heap.IsTuple.push hl _
    wp_walk using wpAny_pyIter_ascii (x := x) (t := u) ha, wpAny_pyIter_tuple hL
    exact ⟨_, rfl, h⟩
section
variable {P : Program} {w : World} {A : Around} {E : Value → Shared → Prop} {s : Shared} {n1 n2 k : Nat} {it1 it2 : Nat → Value → Prop} {At1 At2 : Addr → Nat → Heap → Prop} {r1 r2 : Addr → Prop} {z TI TO i1 i2 : Addr} {x0 y0 : Value}
theorem call_zipS {x : Str} {u : Tok} {l : Addr} {ys : Array Value} {Q : Value → Shared → Prop} (ha : x.cps.all (· < 128) = true) (hl : s.heap.IsTuple l ys)
    (q : ∀ h', IsZip h' (s.heap.objs.size + 4) (s.heap.objs.size + 2) (s.heap.objs.size + 3) .none → IsPair h' (s.heap.objs.size + 2) (.ref s.heap.objs.size) (.ref (s.heap.objs.size + 1)) → IsPair h' (s.heap.objs.size + 3) .none .none →
      h'.get? s.heap.objs.size = some (itObj x u 0) → h'.IsTupleIter (s.heap.objs.size + 1) l 0 → (∀ c o, s.heap.get? c = some o → h'.get? c = some o) → Q (.ref (s.heap.objs.size + 4)) { s with heap := h' }) :
    wpAny (model P w) A (call (.type "zip") [.str x u, .ref l]) Q E s := by
  refine callType_new F.called_zip (by decide) (F.typeCall_zip_2 _ _) (F.newCall_zip_2 _ _) (fun obj => F.args_object_init_3 obj _ _) F.entry_zip_new (zip_made x u l ys ha) ⟨hl, ?_⟩
  have e1 : (zs1 s.heap x u).objs.size = s.heap.objs.size + 1 := Heap.size_push ..
  have e2 : (zs2 s.heap x u l).objs.size = s.heap.objs.size + 2 := by rw [Heap.size_push, e1]
  have e3 : (zs3 s.heap x u l).objs.size = s.heap.objs.size + 3 := by rw [Heap.size_push, e2]
  have e4 : (zs4 s.heap x u l).objs.size = s.heap.objs.size + 4 := by rw [Heap.size_push, e3]
  have up : ∀ {h : Heap} {o : Obj} {c : Addr} {v : Obj}, h.get? c = some v → (h.push o).get? c = some v := fun e => Heap.get?_push_of_some _ e
  have g5 : (zs5 s.heap x u l).get? (zs4 s.heap x u l).objs.size = some _ := Heap.get?_push_size _ rfl
  have g4 : (zs5 s.heap x u l).get? (zs3 s.heap x u l).objs.size = some _ := up (Heap.get?_push_size _ rfl)
  have g3 : (zs5 s.heap x u l).get? (zs2 s.heap x u l).objs.size = some _ := up (up (Heap.get?_push_size _ rfl))
  have g2 : (zs5 s.heap x u l).get? (zs1 s.heap x u).objs.size = some _ := up (up (up (Heap.get?_push_size _ rfl)))
  have g1 : (zs5 s.heap x u l).get? s.heap.objs.size = some (itObj x u 0) := up (up (up (up (Heap.get?_push_size _ rfl))))
  rw [e1] at g2 g3
  rw [e2] at g3 g5
  rw [e3] at g4 g5
  rw [e4] at g5
  show _ ∧ _
  rw [e4]
  exact ⟨⟨_, g5, rfl⟩, q _ g5 g3 g4 g1 ⟨_, g2, rfl, rfl⟩ fun c o e => up (up (up (up (up e))))⟩
theorem next_item (D1 : Draws P w n1 it1 At1 r1) (D2 : Draws P w n2 it2 At2 r2) (F : Far z TI TO i1 i2 r1 r2) (hz : IsZip s.heap z TI TO .none) (hI : IsPair s.heap TI (.ref i1) (.ref i2)) (hO : IsPair s.heap TO x0 y0) (h1 : At1 i1 k s.heap) (h2 : At2 i2 k s.heap) (l1 : k < n1) (l2 : k < n2)
    {Q : Option Value → Shared → Prop} (q : ∀ (h' : Heap) tk v1 v2, it1 k v1 → it2 k v2 → IsZip h' z TI TO (rawInt s.heap.objs.size) → IsPair h' TO v1 v2 → At1 i1 (k + 1) h' → At2 i2 (k + 1) h' → IsPair h' s.heap.objs.size v1 v2 →
      (∀ c o, c ≠ z → c ≠ TO → c ≠ i1 → c ≠ i2 → s.heap.get? c = some o → h'.get? c = some o) → Q (some (.ref s.heap.objs.size)) { s with heap := h', toks := tk }) : wpAny (model P w) A (pyNext (.ref z)) Q E s := by
  have hT : s.TypeIs (.ref z) "zip" := ⟨_, hz, rfl⟩
  unfold pyNext
  exact wpAny_bind (wpAny_attempt (wpAny_callSpecial?_slot (name := Str.ofString "__next__") hT PySem.F.slot_zip_next
    (wpAny_call_entry PySem.F.slot_zip_next hT PySem.F.entry_zip_next (zip_item D1 D2 F hz hI hO h1 h2 l1 l2 fun h' tk v1 v2 b1 b2 b3 b4 b5 b6 b7 b8 => wpAny_pure (q h' tk v1 v2 b1 b2 b3 b4 b5 b6 b7 b8)) (PySem.F.args_zip_next_1 _))))
theorem next_stop (D1 : Draws P w n1 it1 At1 r1) (F : Far z TI TO i1 i2 r1 r2) (hh : A.handled = none) (hz : IsZip s.heap z TI TO .none) (hI : IsPair s.heap TI (.ref i1) (.ref i2)) (h1 : At1 i1 n1 s.heap)
    {Q : Option Value → Shared → Prop} (q : ∀ h', (∀ c o, c ≠ z → c ≠ TO → c ≠ i1 → c ≠ i2 → s.heap.get? c = some o → h'.get? c = some o) → Q none { s with heap := h' }) : wpAny (model P w) A (pyNext (.ref z)) Q E s := by
  have hT : s.TypeIs (.ref z) "zip" := ⟨_, hz, rfl⟩
  unfold pyNext
  refine wpAny_bind (wpAny_attempt (wpAny_callSpecial?_slot (name := Str.ofString "__next__") hT PySem.F.slot_zip_next
    (wpAny_call_entry PySem.F.slot_zip_next hT PySem.F.entry_zip_next ?_ (PySem.F.args_zip_next_1 _))))
  refine zip_stop D1 F (show A.in1.handled = none from hh) hz hI h1 fun h' e kk ⟨o, ho, co⟩ => ?_
  exact wpAny_bind (wpAny_isInstance (T := "StopIteration") (b := true) ⟨o, ho, co⟩ isSubtype_stop (wpAny_pure (q h' kk)))
end
end Own

namespace Own
open PySem PySem.Spec PyProof.Rows L2 PySem.Froz
/-- the text y and the tuple at b, that is no shorter, item by item in new pairs -/
def Itzs (K : PySem.W.Frag) (y : Str) (b : Addr) : It :=
  ⟨fun i H => ∃ (ys : List V) (v : V), i < y.cps.size ∧ SqT K H b ys ∧ ys[i]? = some v,
    fun i H v H' => ∃ T c x, v = .ref T ∧ H T = none ∧ H' = upd H T (.tup [.str (sing c), x]) ∧ y.cps[i]? = some c ∧ ∀ ys, SqT K H b ys → ys[i]? = some x,
    fun i H => i = y.cps.size ∧ ∃ ys : List V, SqT K H b ys⟩
/-- the objects of such a walk -/
def ZipSt (y : Str) (u : Tok) (b z TI TO i1 i2 : Addr) (i : Nat) (h : Heap) : Prop :=
  IsZip h z TI TO .none ∧ IsPair h TI (.ref i1) (.ref i2) ∧ (∃ p q, IsPair h TO p q) ∧ h.get? i1 = some (itObj y u i) ∧ h.IsTupleIter i2 b i
theorem turn_zips {P : Program} {w : World} {K : PySem.W.Frag} {elts : List Expr} {kk : Nat} {tpos : Pos} {y : Str} {u : Tok} {b z TI TO i1 i2 : Addr} (F : Far z TI TO i1 i2 (fun _ => False) (fun q => q = b)) :
    Turn P w K (.Tuple elts kk tpos) (Itzs K y b) [z, TI, TO, i1, i2] z (ZipSt y u b z TI TO i1 i2) where
  mem := List.mem_cons_self
  obj := fun i h ⟨hz, hI, ⟨p, q, hO⟩, h1, ⟨o, h2, _, d2⟩⟩ c hc => by
    simp only [List.mem_cons, List.not_mem_nil, or_false] at hc
    rcases hc with rfl | rfl | rfl | rfl | rfl
    · exact ⟨_, hz, fun v e => nomatch e⟩
    · exact ⟨_, hI, fun v e => nomatch e⟩
    · exact ⟨_, hO, fun v e => nomatch e⟩
    · exact ⟨_, h1, fun v e => nomatch e⟩
    · exact ⟨_, h2, fun v e => by rw [d2] at e; cases e⟩
  keep := fun i h h' ⟨hz, hI, ⟨p, q, hO⟩, h1, h2⟩ k =>
    ⟨k z (by simp) _ hz, k TI (by simp) _ hI, ⟨p, q, k TO (by simp) _ hO⟩, k i1 (by simp) _ h1, h2.at fun o e => k i2 (by simp) o e⟩
  item := fun X hP hw hK hc i pins s σ H E I hf ⟨hz, hI, ⟨p, q, hO⟩, h1, h2⟩ ⟨ys, v, hi, hq, hv⟩ => by
    subst hP hw hK
    obtain ⟨its, rv, hb, _⟩ := I.tuple hq
    obtain ⟨r, hr, rr⟩ := rv.get hv
    have hi2 : i < its.toArray.size := by rw [List.size_toArray]; exact (List.getElem?_eq_some_iff.mp hr).1
    have zlt : z < s.heap.objs.size := Heap.lt_size hz
    have far := F.r b (.inr rfl)
    refine next_item (draws_text X.prog X.w y u) (draws_tup X.prog X.w b its.toArray) F hz hI hO h1 ⟨h2, hb, far.2.2.2⟩ hi hi2 fun h' tk v1 v2 ⟨c, t, hc1, e1⟩ e2 z' O' a1 a2 T' kp => ?_
    have e3 : v2 = r := by
      have q : its.toArray[i]? = some r := by simpa using hr
      rw [q] at e2
      exact (Option.some.inj e2).symm
    subst e1 e3
    refine ⟨_, rfl, wpAny_letOwnedTupleGo_zip (s := { s with heap := h', toks := tk }) z' fun h3 z3 sb => ?_⟩
    have kp3 : ∀ c o, c ∉ [z, TI, TO, i1, i2] → s.heap.get? c = some o → h3.get? c = some o := fun c o hn e => by
      simp only [List.mem_cons, List.not_mem_nil, or_false, not_or] at hn
      exact (sb.2 c hn.1).trans (kp c o hn.1 hn.2.2.1 hn.2.2.2.1 hn.2.2.2.2 e)
    have T3 : h3.get? s.heap.objs.size = some { cls := .type "tuple", data := .seq #[.str (sing c) t, v2] } := (sb.2 _ (Nat.ne_of_gt zlt)).trans T'
    have new : ObjOk X.prog X.w (upd H s.heap.objs.size (.tup [.str (sing c), v])) h3 s.heap.objs.size (.tup [.str (sing c), v]) :=
      ⟨by show 2 ≤ sizeLine; decide, [.str (sing c) t, v2], .cons ⟨t, rfl⟩ (.cons rr .nil), ⟨_, T3, rfl, _, rfl⟩⟩
    have J : Inv X pins σ (upd H s.heap.objs.size (.tup [.str (sing c), v])) { s with heap := h3, toks := tk } := I.turnedNew (t' := tk) (ch := [z, TI, TO, i1, i2]) kp3 hf (Nat.le_refl _) new
    refine ⟨.ref s.heap.objs.size, _, J, rfl, ⟨_, c, v, rfl, I.hok.fresh (Nat.le_refl _), rfl, hc1, fun l hl => by rw [I.tuple_inj hl hq]; exact hv⟩, ⟨z3, ?_, ⟨_, _, (sb.2 _ F.b).trans O'⟩, (sb.2 _ F.c).trans a1, a2.1.at fun o e => (sb.2 _ F.d).trans e⟩, fun d hd => ?_⟩
    · exact (sb.2 _ F.a).trans (kp _ _ F.a F.e F.f F.g hI)
    · have lt : d < s.heap.objs.size := by
        simp only [List.mem_cons, List.not_mem_nil, or_false] at hd
        rcases hd with rfl | rfl | rfl | rfl | rfl
        · exact zlt
        · exact Heap.lt_size hI
        · exact Heap.lt_size hO
        · exact Heap.lt_size h1
        · obtain ⟨_, e, _⟩ := h2; exact Heap.lt_size e
      rw [upd_ne (Nat.ne_of_lt lt)]
      exact (hf d hd).1
  done := fun X hP hw hK hc i pins s σ H E I hf ⟨hz, hI, ⟨p, q, hO⟩, h1, h2⟩ ⟨hi, ys, hq⟩ => by
    subst hP hw hK hi
    exact next_stop (draws_text X.prog X.w y u) F (I.ok.hd hc) hz hI h1 fun h' kp => ⟨rfl, I.turnedL (t' := s.toks) (ch := [z, TI, TO, i1, i2]) (fun c o hn e => by
      simp only [List.mem_cons, List.not_mem_nil, or_false, not_or] at hn
      exact kp c o hn.1 hn.2.2.1 hn.2.2.2.1 hn.2.2.2.2 e) hf⟩
  self := fun A i s Q E st h => wpAny_pyIter_zip st.1 h
/-- zip(text, tuple) -/
def iZips (K : PySem.W.Frag) (ta : TA) : TI := fun σ H R => ta σ H fun vs H1 => ∃ (y : Str) (b : Addr) (ys : List V), vs = [.str y, .ref b] ∧ y.cps.all (· < 128) = true ∧ SqT K H1 b ys ∧ R (Itzs K y b) H1
theorem pi_zips {X : Cx} {e e2 : Expr} {ta : TA} {p pos tpos : Pos} {elts : List Expr} {kk : Nat} (hg : Gl X "zip") (hm : X.mg "zip" = none) (ha : PA X [e, e2] ta)
    (hs : starEach [e, e2] X.env = (false, eval e X.env) :: starEach [e2] X.env := by rfl) (hpl : (backTo pos (starEach [e2] X.env)).any (·.1) = false := by rfl) :
    PI X (.Tuple elts kk tpos) (.Call (.Name "zip" p) [e, e2] [] pos) (iZips X.K ta) := by
  refine ⟨fun pins s σ H R I h => Call_ (ld_blt I hg hm PyProof.Rows.boot_zip (PyProof.Rows.callWith_type1 (thn (ha.run pos pins s σ H _ I h) fun us s1 ⟨vs, H1, I1, r1, y, b, ys, ev, asc, hq, q⟩ => ?_) hs hpl))⟩
  subst ev
  cases r1 with
  | cons r rr =>
    cases rr with
    | cons r' r2 =>
      cases r2
      obtain ⟨u, rfl⟩ := r
      cases r'
      obtain ⟨its, rv, hb, _⟩ := I1.tuple hq
      have lt : b < s1.heap.objs.size := by
        obtain ⟨o, e, _⟩ := id hb
        exact Heap.lt_size e
      refine call_zipS asc (show s1.heap.IsTuple b its.toArray from hb) fun h' hz hI hO h1 h2 kp => wpAny_pyIter_zip hz ?_
      have J : Inv X pins σ H1 { s1 with heap := h' } := I1.kept (t' := s1.toks) kp
      have far : Far (s1.heap.objs.size + 4) (s1.heap.objs.size + 2) (s1.heap.objs.size + 3) s1.heap.objs.size (s1.heap.objs.size + 1) (fun _ => False) (fun q => q = b) := by
        have nn : ∀ {m n : Nat}, m ≠ n → (m : Addr) ≠ n := fun h => h
        refine ⟨nn (by omega), nn (by omega), nn (by omega), nn (by omega), nn (by omega), nn (by omega), nn (by omega), nn (by omega), nn (by omega), nn (by omega), fun q hq => ?_⟩
        rcases hq with f | e
        · exact f.elim
        · have lt' : q < s1.heap.objs.size := e.symm ▸ lt
          exact ⟨nn (Nat.ne_of_lt (Nat.lt_add_right _ lt')), nn (Nat.ne_of_lt (Nat.lt_add_right _ lt')), nn (Nat.ne_of_lt lt'), nn (Nat.ne_of_lt (Nat.lt_add_right _ lt'))⟩
      refine ⟨s1.heap.objs.size + 4, [s1.heap.objs.size + 4, s1.heap.objs.size + 2, s1.heap.objs.size + 3, s1.heap.objs.size, s1.heap.objs.size + 1], ZipSt y u b (s1.heap.objs.size + 4) (s1.heap.objs.size + 2) (s1.heap.objs.size + 3) s1.heap.objs.size (s1.heap.objs.size + 1), _, H1, rfl, J, turn_zips far, ⟨hz, hI, ⟨_, _, hO⟩, h1, h2⟩, fun c hc => ?_, q⟩
      have le : s1.heap.objs.size ≤ c := by
        simp only [List.mem_cons, List.not_mem_nil, or_false] at hc
        rcases hc with e | e | e | e | e <;> rw [e] <;> first | exact Nat.le_add_right _ _ | exact Nat.le_refl _
      exact I1.fpOk le (I1.hok.fresh le)
theorem walk_zips {K : PySem.W.Frag} {y : Str} {b : Addr} {ys : List V} (hl : y.cps.size ≤ ys.length) : L2.Walk (Itzs K y b) y.cps.size (fun H => SqT K H b ys) (YPair (fun i => (y.cps[i]?).map fun c => .str (sing c)) (fun i => ys[i]?)) := by
  refine ⟨fun i H hi q => ⟨ys, ys[i], hi, q, List.getElem?_eq_getElem (by omega)⟩, fun H q => ⟨rfl, ys, q⟩, fun i H x H' hi q ⟨T, c, v, e1, e2, e3, e4, e5⟩ => ⟨T, .str (sing c), v, e1, e2, e3, ?_, e5 ys q⟩⟩
  show (y.cps[i]?).map _ = _
  rw [e4]
  rfl
end Own

namespace Kx
open PySem L2 Own
abbrev s_is_whole : Stmt := top 8
abbrev s_key_list : Stmt := top 11
abbrev s_check_ways : Stmt := top 28
abbrev s_keys_in : Stmt := top 29
/-! ### rows of machines -/
abbrev Way := Int × List Str
/-- a tuple of keys -/
def KeysT (H : Hp) (v : V) (ks : List Str) : Prop := ∃ a, v = .ref a ∧ H a = some (.tup (ks.map V.str))
def WayT (H : Hp) (v : V) (w : Way) : Prop := ∃ a kv, v = .ref a ∧ H a = some (.tup [.int w.1, kv]) ∧ KeysT H kv w.2
def RowT (H : Hp) (v : V) (r : List Way) : Prop := ∃ a vs, v = .ref a ∧ H a = some (.tup vs) ∧ Paired (WayT H) vs r
theorem KeysT.keep {H H' : Hp} (s : ∀ b xs, H b = some (.tup xs) → H' b = some (.tup xs)) {v : V} {ks : List Str} (h : KeysT H v ks) : KeysT H' v ks := by
  obtain ⟨a, e, h⟩ := h
  exact ⟨a, e, s _ _ h⟩
theorem WayT.keep {H H' : Hp} (s : ∀ b xs, H b = some (.tup xs) → H' b = some (.tup xs)) {v : V} {r : Way} (h : WayT H v r) : WayT H' v r := by
  obtain ⟨a, kv, e, h, k⟩ := h
  exact ⟨a, kv, e, s _ _ h, k.keep s⟩
theorem RowT.keep {H H' : Hp} (s : ∀ b xs, H b = some (.tup xs) → H' b = some (.tup xs)) {v : V} {r : List Way} (h : RowT H v r) : RowT H' v r := by
  obtain ⟨a, vs, e, h, k⟩ := h
  exact ⟨a, vs, e, s _ _ h, L2.Paired.mapP k fun _ _ z => z.keep s⟩
theorem tups {H H' : Hp} (s : Same H H') : ∀ b xs, H b = some (.tup xs) → H' b = some (.tup xs) := fun b xs e => s b _ e
def keysOfRows (R : List (List Way)) : List Str := R.flatMap fun r => r.flatMap fun w => w.2
/-- the defs of machines -/
structure MAd where
  f1 : Addr
  f2 : Addr
  f3 : Addr
  f4 : Addr
  d1 : FuncData
  d2 : FuncData
  d3 : FuncData
  d4 : FuncData
structure TxtM (K : PySem.W.Frag) (mg : Str → Option Value) (B : MAd) : Prop where
  D_is_whole : DefT K mg "is_whole" "is_whole" s_is_whole ["value"] B.f1 B.d1
  D_key_list : DefT K mg "key_list" "key_list" s_key_list ["given"] B.f2 B.d2
  D_check_ways : DefT K mg "check_ways" "check_ways" s_check_ways ["rows"] B.f3 B.d3
  D_keys_in : DefT K mg "keys_in" "keys_in" s_keys_in ["rows", "ends"] B.f4 B.d4
  n_isinstance : mg "isinstance" = none
  n_int : mg "int" = none
  n_bool : mg "bool" = none
  n_len : mg "len" = none
  n_set : mg "set" = none
  n_sorted : mg "sorted" = none
  n_tuple : mg "tuple" = none
  n_zip : mg "zip" = none
  n_enumerate : mg "enumerate" = none
section
variable {P : Program} {w : World} {K : PySem.W.Frag} {mg : Str → Option Value} {base : Heap} {B : MAd}
def spWhole : Sp := fun vs H Q _ => ∃ i : Int, vs = [.int i] ∧ Q (.bl true) H
theorem sc_is_whole : FnScope ["value"] ["value"] (defScope s_is_whole) := ⟨rfl, rfl, rfl, by decide +kernel, rfl, by decide +kernel, by decide +kernel⟩
theorem ok_is_whole (T : TxtM K mg B) : FnOk P w K mg base CX0 1 B.f1 B.d1 ["value"] spWhole := by
  have sc := sc_is_whole
  refine T.D_is_whole.F.ok sc (fun vs H Q E h => ?_) (fun cdv A1 outer s H vs Q E hr h => ?_)
  · obtain ⟨_, rfl, _⟩ := h; rfl
  · obtain ⟨i, rfl, q⟩ := h
    refine ⟨_, pss_one (ps_ret (pe_and (pe_callB call_isi (by rfl) T.n_isinstance (by decide +kernel) (pa_cons (pv 0) (pa_cons (pe_bltn (v := .ty "int") rfl T.n_int (by decide +kernel) rfl) pa_nil)))
      (pe_one (pe_notT (pe_callB call_isi (by rfl) T.n_isinstance (by decide +kernel) (pa_cons (pv 0) (pa_cons (pe_bltn (v := .ty "bool") rfl T.n_bool (by decide +kernel) rfl) pa_nil))))))), ?_⟩
    refine ⟨_, rfl, _, _, _, _, true, rfl, ClsV.ty _, .base (.int i), kit_ty (by decide +kernel), true, rfl, ?_⟩
    exact ⟨_, rfl, _, _, _, _, false, rfl, ClsV.ty _, .base (.int i), kit_ty (by decide +kernel), false, rfl, q⟩
def spKl (K : PySem.W.Frag) : Sp := fun vs H Q _ => ∃ (x : V) (xs : List Str), vs = [x] ∧ Texts K H x xs ∧ xs.length + 1 < scanBound ∧
  ∀ p H', H p = none → Same H H' → H' p = some (.tup ((kl xs).map V.str)) → Q (.ref p) H'
theorem sc_key_list : FnScope ["given"] ["given"] (defScope s_key_list) := ⟨rfl, rfl, rfl, by decide +kernel, rfl, by decide +kernel, by decide +kernel⟩
theorem ok_key_list (T : TxtM K mg B) : FnOk P w K mg base CX0 1 B.f2 B.d2 ["given"] (spKl K) := by
  have sc := sc_key_list
  refine T.D_key_list.F.ok sc (fun vs H Q E h => ?_) (fun cdv A1 outer s H vs Q E hr h => ?_)
  · obtain ⟨_, _, rfl, _⟩ := h; rfl
  · obtain ⟨x, xs, rfl, tx, hb, q⟩ := h
    refine ⟨_, pss_one (ps_ret (pe_tupleOf rfl T.n_tuple (pe_callB (cr_sortT rfl) (by rfl) T.n_sorted (by decide +kernel) (pa_cons (pe_callTy (cr_setT rfl) (by rfl) T.n_set (by decide +kernel) (pa_cons (pv 0) pa_nil)) pa_nil)))), ?_⟩
    refine ⟨_, rfl, x, xs, rfl, tx, hb, fun p l hp nd hm hl => ?_⟩
    refine ⟨p, l, rfl, upd_same, by omega, fun p2 ys hp2 pm hs => ?_⟩
    refine .inl ⟨p2, _, rfl, SqL.of upd_same, fun p3 hp3 => ?_⟩
    rw [kl_of pm hs nd hm] at *
    have h3 : H p3 = none := by
      cases e : H p3 with
      | none => rfl
      | some o => exact absurd ((Same.upd hp2 _ _ (Same.upd hp _ _ e)).symm.trans hp3) (by simp)
    exact q p3 _ h3 (fun b o e => Same.upd hp3 _ _ (Same.upd hp2 _ _ (Same.upd hp _ _ e))) upd_same
end
end Kx

namespace Kx
open PySem L2 Own
section
variable {P : Program} {w : World} {K : PySem.W.Frag} {mg : Str → Option Value} {base : Heap} {B : MAd}
local macro_rules | `(tactic| walk_at "g") => `(tactic| first | refine ⟨_, _, rfl, rfl, ?_⟩ | refine ⟨_, rfl, ?_⟩ | refine ⟨rfl, ?_⟩)
theorem pat {α β : Type} {F : α → β → Prop} : ∀ {l : List α} {m : List β} {i : Nat} {x : α}, Paired F l m → l[i]? = some x → ∃ y, m[i]? = some y ∧ F x y
  | _, _, i, _, .nil, h => by cases i <;> cases h
  | _, _, 0, _, .cons r _, h => ⟨_, rfl, by cases h; exact r⟩
  | _, _, i + 1, _, .cons _ t, h => pat (i := i) t h
theorem flat_step {α : Type} (f : α → List Str) : ∀ {l : List α} {i : Nat} {x : α}, l[i]? = some x → (l.take (i + 1)).flatMap f = (l.take i).flatMap f ++ f x
  | [], i, _, h => by cases i <;> cases h
  | a :: l, 0, x, h => by
    have e : a = x := Option.some.inj h
    subst e
    simp
  | a :: l, i + 1, x, h => by
    have ih := flat_step f (l := l) (i := i) h
    rw [List.take_succ_cons, List.take_succ_cons, List.flatMap_cons, List.flatMap_cons, ih, List.append_assoc]
theorem flat_le {α : Type} (f : α → List Str) : ∀ {l : List α} {i : Nat} {x : α}, l[i]? = some x → ((l.take i).flatMap f).length + (f x).length ≤ (l.flatMap f).length
  | [], i, _, h => by cases i <;> cases h
  | a :: l, 0, x, h => by
    have e : a = x := Option.some.inj h
    subst e
    simp
  | a :: l, i + 1, x, h => by
    have ih := flat_le f (l := l) (i := i) h
    rw [List.take_succ_cons, List.flatMap_cons, List.flatMap_cons, List.length_append, List.length_append]
    omega
theorem bound_line {n : Nat} (h : n < scanBound) : n < sizeLine := by
  rw [sizeLine_eq]
  unfold scanBound at h
  omega
def spKin (K : PySem.W.Frag) : Sp := fun vs H Q _ => ∃ (r e : Addr) (rv ev : List V) (R : List (List Way)) (Es : List (List Str)), vs = [.ref r, .ref e] ∧ H r = some (.tup rv) ∧ Paired (RowT H) rv R ∧ H e = some (.tup ev) ∧ Paired (KeysT H) ev Es ∧
  (keysOfRows R ++ Es.flatten).length + 1 < scanBound ∧ ∀ p H', H p = none → Same H H' → H' p = some (.tup ((kl (keysOfRows R ++ Es.flatten)).map V.str)) → Q (.ref p) H'
theorem sc_keys_in : FnScope ["rows", "ends", "on_ways", "row", "way", "key", "end"] ["rows", "ends"] (defScope s_keys_in) := ⟨rfl, rfl, rfl, by decide +kernel, rfl, by decide +kernel, by decide +kernel⟩
theorem ok_keys_in (T : TxtM K mg B) : FnOk P w K mg base CX0 2 B.f4 B.d4 ["rows", "ends"] (spKin K) := by
  have sc := sc_keys_in
  have G_key_list : FnOk P w K mg base CX0 1 B.f2 B.d2 ["given"] (spKl K) := ok_key_list T
  refine T.D_keys_in.F.ok sc (fun vs H Q E h => ?_) (fun cdv A1 outer s H vs Q E hr h => ?_)
  · obtain ⟨_, _, _, _, _, _, rfl, _⟩ := h; rfl
  · obtain ⟨r, e, rv, ev, R, Es, rfl, hrv, pR, hev, pE, hb, q⟩ := h
    refine ⟨_, (pss_cons (ps_setLcN (i := 2) (own := [("row", 3), ("way", 4), ("key", 5)]) (vs1 := [4, 5]) (g := gName 3) (tt := tYes) (t := tFor (iTup K (tVar 3)) (gName 4) tYes [4, 5] (tFor (iTup K (tOp (rIxT K) (tVar 4) (tC (.int 1)))) (gName 5) tYes [5] (tEmit (tVar 5)))) rfl sc.nd rfl rfl (sw_true rfl rfl rfl (by decide +kernel)) (pi_tup (pv 0)) (blkOk_by (N := ["rows", "ends", "on_ways", "row", "way", "key", "end"]) (sc := defScope s_keys_in) (own := [("row", 3), ("way", 4), ("key", 5)]) (by decide +kernel)) (.inr ⟨_, _, _, rfl⟩) (by decide)
        (fun _ _ _ _ _ => (pg_name (i := 3) sc.nd rfl (Or.inl rfl))) (fun _ _ _ _ _ => pts_nil)
        (fun _ _ _ _ _ D => does_for rfl (.inr ⟨_, _, _, rfl⟩) rfl rfl (pi_tup (pv 3)) (fun _ => rfl) (pg_name (i := 4) sc.nd rfl (Or.inl rfl)) pts_nil
          (does_for rfl (.inl rfl) rfl rfl (pi_tup (pe_ix ix_tup (pv 4) pe_int (fun _ _ => rfl))) (fun _ => rfl) (pg_name (i := 5) sc.nd rfl (Or.inl rfl)) pts_nil (does_emit rfl rfl (pv 5)) (by decide)) (by decide)))
      (pss_one (ps_ret (pe_call G_key_list (hr.mono (by decide)) rfl T.D_key_list.g T.D_key_list.F.kp T.D_key_list.b .nil pass0 (pa_cons (pe_lst (StX.pa_star (pv 2) (StX.pa_star
        (pe_lcN (own := [("end", 6), ("key", 5)]) (vs1 := [5]) (g := gName 6) (tt := tYes) (t := tFor (iTup K (tVar 6)) (gName 5) tYes [5] (tEmit (tVar 5))) rfl sc.nd (pi_tup (pv 1)) (blkOk_by (N := ["rows", "ends", "on_ways", "row", "way", "key", "end"]) (sc := defScope s_keys_in) (own := [("end", 6), ("key", 5)]) (by decide +kernel)) (.inr ⟨_, _, _, rfl⟩) (by decide)
          (fun _ _ _ _ _ => (pg_name (i := 6) sc.nd rfl (Or.inl rfl))) (fun _ _ _ _ _ => pts_nil)
          (fun _ _ _ _ _ D => does_for rfl (.inl rfl) rfl rfl (pi_tup (pv 6)) (fun _ => rfl) (pg_name (i := 5) sc.nd rfl (Or.inl rfl)) pts_nil (does_emit rfl rfl (pv 5)) (by decide)))
        pa_nil))) pa_nil))))), ?_⟩
    have hb1 : (keysOfRows R).length + Es.flatten.length + 1 < scanBound := by rw [List.length_append] at hb; exact hb
    -- on_ways
    refine ⟨_, rfl, r, rfl, ⟨_, SqT.of hrv⟩, fun D hD => ?_⟩
    have put : ∀ {H' : Hp} {xs : List V}, Same H H' → Same H (upd H' D (.lst xs)) := fun {H' xs} s1 b o e => by rw [upd_ne (ne_of_none e hD)]; exact s1 b o e
    refine lp_it [some (.ref r), some (.ref e), none, none, none, none, none] rfl walk_tup (fun i H' => Same H H' ∧ H' D = some (.lst ((keysOfRows (R.take i)).map V.str))) ⟨Same.upd hD, upd_same⟩ (fun i H' _ z => SqT.of (z.1 _ _ hrv)) ?_ ?_
    · rintro i x H1 _ hi ⟨s1, h1⟩ ⟨rfl, hx⟩
      obtain ⟨rw1, hrw, a, vs, rfl, ha, pr⟩ := pat pR hx
      have l1 := flat_le (fun r : List Way => r.flatMap fun w => w.2) hrw
      refine ⟨rfl, _, rfl, a, rfl, ⟨_, SqT.of (s1 _ _ ha)⟩, ?_⟩
      refine lp_it [some (.ref r), some (.ref e), none, some (.ref a), none, none, none] rfl walk_tup (fun j H' => Same H H' ∧ H' D = some (.lst ((keysOfRows (R.take i) ++ (rw1.take j).flatMap fun w => w.2).map V.str))) ⟨s1, by simpa using h1⟩ (fun j H' _ z => SqT.of (z.1 _ _ ha)) ?_ ?_
      · rintro j y H2 _ hj ⟨s2, h2⟩ ⟨rfl, hy⟩
        obtain ⟨wy, hwy, b, kv, rfl, hb2, kt, rfl, hk⟩ := pat pr hy
        have l2 := flat_le (fun w : Way => w.2) hwy
        refine ⟨rfl, _, rfl, b, _, 1, _, rfl, rfl, SqT.of (s2 _ _ hb2), atI_nat (j := 1) rfl, kt, rfl, ⟨_, SqT.of (s2 _ _ hk)⟩, ?_⟩
        refine lp_it [some (.ref r), some (.ref e), none, some (.ref a), some (.ref b), none, none] rfl walk_tup (fun k H' => Same H H' ∧ H' D = some (.lst ((keysOfRows (R.take i) ++ ((rw1.take j).flatMap fun w => w.2) ++ wy.2.take k).map V.str))) ⟨s2, by simpa using h2⟩ (fun k H' _ z => SqT.of (z.1 _ _ hk)) ?_ ?_
        · rintro k z H3 _ hk3 ⟨s3, h3⟩ ⟨rfl, hz⟩
          rw [List.getElem?_map] at hz
          obtain ⟨key, hkey, rfl⟩ := Option.map_eq_some_iff.mp hz
          refine ⟨rfl, _, rfl, _, h3, ?_, put s3, ?_⟩
          · refine bound_line ?_
            rw [List.length_map, List.length_append, List.length_append, List.length_take]
            unfold keysOfRows at hb1 ⊢
            omega
          · rw [upd_same, List.take_add_one, hkey]
            simp
        · rintro H3 ⟨s3, h3⟩
          refine ⟨s3, ?_⟩
          rw [List.length_map, List.take_length] at h3
          rw [flat_step _ hwy, ← List.append_assoc]
          exact h3
      · rintro H2 ⟨s2, h2⟩
        refine ⟨s2, ?_⟩
        have e : vs.length = rw1.length := Paired.length pr
        rw [e, List.take_length] at h2
        show H2 D = some (.lst (((R.take (i + 1)).flatMap _).map V.str))
        rw [flat_step _ hrw]
        exact h2
    rintro H1 ⟨s1, h1⟩
    have e1 : rv.length = R.length := Paired.length pR
    rw [e1, List.take_length] at h1
    -- the display
    refine ⟨_, rfl, D, _, rfl, .inr (SqL.of h1), ?_⟩
    refine ⟨_, rfl, e, rfl, ⟨_, SqT.of (s1 _ _ hev)⟩, fun D2 hD2 => ?_⟩
    have put2 : ∀ {H' : Hp} {xs : List V}, Same H1 H' → Same H1 (upd H' D2 (.lst xs)) := fun {H' xs} s1 b o e => by rw [upd_ne (ne_of_none e hD2)]; exact s1 b o e
    refine lp_it [some (.ref r), some (.ref e), some (.ref D), none, none, none, none] rfl walk_tup (fun i H' => Same H1 H' ∧ H' D2 = some (.lst (((Es.take i).flatMap id).map V.str))) ⟨Same.upd hD2, upd_same⟩ (fun i H' _ z => SqT.of (z.1 _ _ (s1 _ _ hev))) ?_ ?_
    · rintro i x H2 _ hi ⟨s2, h2⟩ ⟨rfl, hx⟩
      obtain ⟨ks, hks, kt, rfl, hk⟩ := pat pE hx
      have l1 := flat_le id hks
      have l2 : (Es.flatMap id).length = Es.flatten.length := by rw [List.flatMap_id]
      refine ⟨rfl, _, rfl, kt, rfl, ⟨_, SqT.of (s2 _ _ (s1 _ _ hk))⟩, ?_⟩
      refine lp_it [some (.ref r), some (.ref e), some (.ref D), none, none, none, some (.ref kt)] rfl walk_tup (fun k H' => Same H1 H' ∧ H' D2 = some (.lst (((Es.take i).flatMap id ++ ks.take k).map V.str))) ⟨s2, by simpa using h2⟩ (fun k H' _ z => SqT.of (z.1 _ _ (s1 _ _ hk))) ?_ ?_
      · rintro k z H3 _ hk3 ⟨s3, h3⟩ ⟨rfl, hz⟩
        rw [List.getElem?_map] at hz
        obtain ⟨key, hkey, rfl⟩ := Option.map_eq_some_iff.mp hz
        refine ⟨rfl, _, rfl, _, h3, ?_, put2 s3, ?_⟩
        · refine bound_line ?_
          rw [List.length_map, List.length_append, List.length_take]
          have l3 : (id ks).length = ks.length := rfl
          omega
        · rw [upd_same, List.take_add_one, hkey]
          simp
      · rintro H3 ⟨s3, h3⟩
        refine ⟨s3, ?_⟩
        rw [List.length_map, List.take_length] at h3
        rw [flat_step _ hks]
        exact h3
    rintro H2 ⟨s2, h2⟩
    have e2 : ev.length = Es.length := Paired.length pE
    rw [e2, List.take_length, List.flatMap_id] at h2
    refine ⟨D2, _, rfl, .inr (SqL.of h2), ?_⟩
    have eL : (keysOfRows R).map V.str ++ (Es.flatten.map V.str ++ []) = (keysOfRows R ++ Es.flatten).map V.str := by simp
    refine ⟨?_, fun l hl => ?_⟩
    · show ((keysOfRows R).map V.str ++ (Es.flatten.map V.str ++ [])).length ≤ sizeLine
      rw [eL, List.length_map]
      exact Nat.le_of_lt (bound_line (by omega))
    have nl : H l = none := by
      cases c : H l with
      | none => rfl
      | some o => exact absurd ((s2 _ _ (s1 _ _ c)).symm.trans hl) (by simp)
    refine ⟨.ref l, _, rfl, .list (SqL.of (upd_same.trans (congrArg (fun z => some (HO.lst z)) eL))), hb, fun p H' hp s3 h3 => ?_⟩
    have up : Same H (upd H2 l (.lst ((keysOfRows R).map V.str ++ (Es.flatten.map V.str ++ [])))) := fun b o c => Same.upd hl _ _ (s2 _ _ (s1 _ _ c))
    refine q p H' ?_ (fun b o c => s3 _ _ (up _ _ c)) h3
    cases c : H p with
    | none => rfl
    | some o => exact absurd ((up _ _ c).symm.trans hp) (by simp)
end
end Kx

namespace Kx
open PySem L2 Own
abbrev s_copied : Stmt := top 17
abbrev s_BadMachine : Stmt := inClass (top 15) 0
abbrev s_TooMany : Stmt := inClass (top 16) 0
/-! ### the errors of machines: their fields are numbers and words -/
def Flat (v : V) : Prop := (∃ i, v = .int i) ∨ ∃ x, v = .str x
abbrev tailM (M : Addr) : List Value := [.ref M, .type "ValueError", .type "Exception", .type "BaseException", .type "object"]
structure ErrC (K : PySem.W.Frag) (mg : Str → Option Value) (name : Str) (C M : Addr) : Prop where
  g : mg name = some (.ref C)
  oex : OexC K C
  exc : ExcC K C
  cls : PySem.W.isClsIn K C = true
  sub : ∀ b : Value, PySem.W.subIn K (.ref C) b = some ((Value.ref C :: tailM M).contains b)
theorem ErrC.xf {K : PySem.W.Frag} {mg : Str → Option Value} {name : Str} {C M : Addr} (e : ErrC K mg name C M) : XfC K C := ⟨e.exc.hg, e.exc.hk, e.exc.hs, e.exc.hd⟩
structure IniT (K : PySem.W.Frag) (qual : Str) (st : Stmt) (C f : Addr) (fd : FuncData) (ps : List Str) : Prop where
  iC : PySem.W.findIn K (.ref C) "__init__" = some (some (.ref f))
  tI : PySem.W.typeIn K (.ref f) = some (.type "function")
  F : Fun K "__init__" qual st f fd
  b : Binds K fd ps []
structure EAd where
  M : Addr
  c1 : Addr
  c2 : Addr
  i1 : Addr
  i2 : Addr
  e1 : FuncData
  e2 : FuncData
  fc : Addr
  dc : FuncData
structure TxtE (K : PySem.W.Frag) (mg : Str → Option Value) (A : EAd) : Prop where
  E_BadMachine : ErrC K mg "BadMachine" A.c1 A.M
  I_BadMachine : IniT K "BadMachine.__init__" s_BadMachine A.c1 A.i1 A.e1 ["self", "state", "place"]
  N_state : PySem.W.findIn K (.ref A.c1) "state" = some none
  N_place : PySem.W.findIn K (.ref A.c1) "place" = some none
  E_TooMany : ErrC K mg "TooMany" A.c2 A.M
  I_TooMany : IniT K "TooMany.__init__" s_TooMany A.c2 A.i2 A.e2 ["self", "what"]
  N_what : PySem.W.findIn K (.ref A.c2) "what" = some none
  D_copied : DefT K mg "copied" "copied" s_copied ["field"] A.fc A.dc
  n_isinstance : mg "isinstance" = none
  n_list : mg "list" = none
  n_tuple : mg "tuple" = none
  n_dict : mg "dict" = none
section
variable {P : Program} {w : World} {K : PySem.W.Frag} {mg : Str → Option Value} {base : Heap} {A : EAd}
def spFlat : Sp := fun vs H Q _ => ∃ v : V, vs = [v] ∧ Flat v ∧ Q v H
theorem sc_copied : FnScope ["field", "part", "key"] ["field"] (defScope s_copied) := ⟨rfl, rfl, rfl, by decide +kernel, rfl, by decide +kernel, by decide +kernel⟩
theorem ok_copied (T : TxtE K mg A) : FnOk P w K mg base CX0 1 A.fc A.dc ["field"] spFlat := by
  have sc := sc_copied
  refine T.D_copied.F.ok sc (fun vs H Q E h => ?_) (fun cdv A1 outer s H vs Q E hr h => ?_)
  · obtain ⟨_, rfl, _⟩ := h; rfl
  · obtain ⟨v, rfl, hf, q⟩ := h
    refine ⟨_, (pss_cons (ps_if (pt_val (pe_callB call_isi (by rfl) T.n_isinstance (by decide +kernel) (pa_cons (pv 0) (pa_cons (pe_bltn (v := .ty "list") rfl T.n_list (by decide +kernel) rfl) pa_nil)))) (pss_one ps_never)
        pss_nil)
      (pss_cons (ps_if (pt_val (pe_callB call_isi (by rfl) T.n_isinstance (by decide +kernel) (pa_cons (pv 0) (pa_cons (pe_bltn (v := .ty "tuple") rfl T.n_tuple (by decide +kernel) rfl) pa_nil)))) (pss_one ps_never)
        pss_nil)
      (pss_cons (ps_if (pt_val (pe_callB call_isi (by rfl) T.n_isinstance (by decide +kernel) (pa_cons (pv 0) (pa_cons (pe_bltn (v := .ty "dict") rfl T.n_dict (by decide +kernel) rfl) pa_nil)))) (pss_one ps_never)
        pss_nil)
      (pss_one (ps_ret (pv 0)))))), ?_⟩
    rcases hf with ⟨i, rfl⟩ | ⟨x, rfl⟩
    · refine ⟨_, rfl, _, _, _, _, false, rfl, ClsV.ty _, .base (.int i), kit_ty (by decide +kernel), _, rfl, iteF ?_⟩
      refine ⟨_, rfl, _, _, _, _, false, rfl, ClsV.ty _, .base (.int i), kit_ty (by decide +kernel), _, rfl, iteF ?_⟩
      refine ⟨_, rfl, _, _, _, _, false, rfl, ClsV.ty _, .base (.int i), kit_ty (by decide +kernel), _, rfl, iteF ?_⟩
      exact ⟨_, rfl, q⟩
    · refine ⟨_, rfl, _, _, _, _, false, rfl, ClsV.ty _, .base (.str x), kit_ty (by decide +kernel), _, rfl, iteF ?_⟩
      refine ⟨_, rfl, _, _, _, _, false, rfl, ClsV.ty _, .base (.str x), kit_ty (by decide +kernel), _, rfl, iteF ?_⟩
      refine ⟨_, rfl, _, _, _, _, false, rfl, ClsV.ty _, .base (.str x), kit_ty (by decide +kernel), _, rfl, iteF ?_⟩
      exact ⟨_, rfl, q⟩
/-- an error's __init__ of the fields fs -/
def spErr (C : Addr) (names : List Str) : Sp := fun vs H Q _ => ∃ (a : Addr) (us : List V), vs = .ref a :: us ∧ us.length = names.length ∧ H a = some (exo a C none) ∧ (∀ u ∈ us, Flat u) ∧
  ∀ (dx : Addr) (H' : Hp), H dx = none → dx ≠ a → H' a = some (exo a C (some dx)) → H' dx = some (exd dx (names.zip us).reverse) → (∀ b o, H b = some o → b ≠ a → H' b = some o) → Q .non H'
theorem sc_TooMany : FnScope ["self", "what"] ["self", "what"] (defScope s_TooMany) := ⟨rfl, rfl, rfl, by decide +kernel, rfl, by decide +kernel, by decide +kernel⟩
theorem ok_TooMany (T : TxtE K mg A) : FnOk P w K mg base CX0 2 A.i2 A.e2 ["self", "what"] (spErr A.c2 ["what"]) := by
  have sc := sc_TooMany
  have G_copied : FnOk P w K mg base CX0 1 A.fc A.dc ["field"] spFlat := ok_copied T
  refine T.I_TooMany.F.ok sc (fun vs H Q E h => ?_) (fun cdv A1 outer s H vs Q E hr h => ?_)
  · obtain ⟨_, us, rfl, l, _⟩ := h
    rw [List.length_cons, l]; rfl
  · obtain ⟨a, us, rfl, l, ha, hf, k⟩ := h
    obtain ⟨v, rfl⟩ : ∃ v, us = [v] := List.length_eq_one_iff.mp l
    refine ⟨_, (pss_one (ps_ost (pv 0) (pe_call G_copied (hr.mono (by decide)) rfl T.D_copied.g T.D_copied.F.kp T.D_copied.b .nil pass0 (pa_cons (pv 1) pa_nil)))), ?_⟩
    refine ⟨_, rfl, v, rfl, hf v List.mem_cons_self, _, rfl, a, A.c2, rfl, T.E_TooMany.oex, T.N_what, .inl ⟨ha, fun dx hd ne => ?_⟩⟩
    refine k dx _ hd ne upd_same (by rw [upd_ne ne, upd_same]; rfl) fun b o e nb => ?_
    rw [upd_ne nb, upd_ne (ne_of_none e hd)]
    exact e
theorem sc_BadMachine : FnScope ["self", "state", "place"] ["self", "state", "place"] (defScope s_BadMachine) := ⟨rfl, rfl, rfl, by decide +kernel, rfl, by decide +kernel, by decide +kernel⟩
theorem ok_BadMachine (T : TxtE K mg A) : FnOk P w K mg base CX0 2 A.i1 A.e1 ["self", "state", "place"] (spErr A.c1 ["state", "place"]) := by
  have sc := sc_BadMachine
  have G_copied : FnOk P w K mg base CX0 1 A.fc A.dc ["field"] spFlat := ok_copied T
  refine T.I_BadMachine.F.ok sc (fun vs H Q E h => ?_) (fun cdv A1 outer s H vs Q E hr h => ?_)
  · obtain ⟨_, us, rfl, l, _⟩ := h
    rw [List.length_cons, l]; rfl
  · obtain ⟨a, us, rfl, l, ha, hf, k⟩ := h
    obtain ⟨v, u, rfl⟩ : ∃ v u, us = [v, u] := by
      match us, l with
      | [v, u], _ => exact ⟨v, u, rfl⟩
    refine ⟨_, (pss_cons (ps_ost (pv 0) (pe_call G_copied (hr.mono (by decide)) rfl T.D_copied.g T.D_copied.F.kp T.D_copied.b .nil pass0 (pa_cons (pv 1) pa_nil)))
      (pss_one (ps_ost (pv 0) (pe_call G_copied (hr.mono (by decide)) rfl T.D_copied.g T.D_copied.F.kp T.D_copied.b .nil pass0 (pa_cons (pv 2) pa_nil))))), ?_⟩
    refine ⟨_, rfl, v, rfl, hf v (by simp), _, rfl, a, A.c1, rfl, T.E_BadMachine.oex, T.N_state, .inl ⟨ha, fun dx hd ne => ?_⟩⟩
    have q1 : (upd (upd H dx (exd dx [("state", v)])) a (exo a A.c1 (some dx))) a = some (exo a A.c1 (some dx)) := upd_same
    have q2 : (upd (upd H dx (exd dx [("state", v)])) a (exo a A.c1 (some dx))) dx = some (exd dx [("state", v)]) := by rw [upd_ne ne, upd_same]
    have q3 : ∀ b o, H b = some o → b ≠ a → (upd (upd H dx (exd dx [("state", v)])) a (exo a A.c1 (some dx))) b = some o := fun b o e nb => by
      rw [upd_ne nb, upd_ne (ne_of_none e hd)]
      exact e
    generalize upd (upd H dx (exd dx [("state", v)])) a (exo a A.c1 (some dx)) = H2 at q1 q2 q3 ⊢
    refine ⟨_, rfl, u, rfl, hf u (by simp), _, rfl, a, A.c1, rfl, T.E_BadMachine.oex, T.N_place, .inr ⟨dx, [("state", v)], q1, q2, (by show 1 ≤ 900; decide), ?_⟩⟩
    refine k dx _ hd ne (by rw [upd_ne (Ne.symm ne)]; exact q1) upd_same fun b o e nb => ?_
    rw [upd_ne (ne_of_none e hd)]
    exact q3 b o e nb
/-- the reading of C(e, ..) behind raise -/
theorem rsE {H : Hp} {C : Addr} {names : List Str} {us : List V} {W : XK} (l : us.length = names.length) (l2 : us.length ≤ 1000) (hf : ∀ u ∈ us, Flat u) (k : ∀ dx H', H dx = none → Same H H' → H' dx = some (.xd (names.zip us).reverse) → W (.ref C) (some dx) H') :
    us.length ≤ 1000 ∧ ∀ a, H a = none → spErr C names (.ref a :: (us ++ [])) (upd H a (exo a C none)) (fun u H2 => u = .non ∧ ∃ (dx : Addr) (fs : List (Str × V)), H2 a = some (exo a C (some dx)) ∧ H2 dx = some (exd dx fs) ∧ H dx = none ∧ W (.ref C) (some dx) (upd (del H2 a) dx (.xd fs))) (fun _ _ _ => False) := by
  refine ⟨l2, fun a ha => ⟨a, us, by rw [List.append_nil], l, upd_same, hf, fun dx H2 hd ne e1 e2 kp => ?_⟩⟩
  have hd0 : H dx = none := by rw [upd_ne ne] at hd; exact hd
  refine ⟨rfl, dx, _, e1, e2, hd0, k dx _ hd0 (fun b o z => ?_) upd_same⟩
  have nb : b ≠ a := ne_of_none z ha
  rw [upd_ne (ne_of_none z hd0), del_ne nb]
  exact kp b o (by rw [upd_ne nb]; exact z) nb
theorem ErrC.raises {X : Cx} {name : Str} {C M : Addr} (e : ErrC X.K X.mg name C M) : Raises X (.ref C) := raises_own e.oex.exC e.oex.tyC
end
end Kx

namespace Kx
open PySem L2 Own
/-! ### what is handed to a machine: lists of lists of tuples -/
def WayS (K : PySem.W.Frag) (H : Hp) (v : V) (w : Way) : Prop := ∃ a kv, v = .ref a ∧ H a = some (.tup [.int w.1, kv]) ∧ Texts K H kv w.2
def RowL (K : PySem.W.Frag) (H : Hp) (v : V) (r : List Way) : Prop := ∃ a vs, v = .ref a ∧ H a = some (.lst vs) ∧ Paired (WayS K H) vs r
theorem seqT {K : PySem.W.Frag} {H H' : Hp} {a : Addr} {xs : List V} (s : Same H H') (h : SqT K H a xs) : SqT K H' a xs := by
  rcases h with h | h
  · exact .inl (h.imp (s _ _) fun ⟨o, z⟩ => ⟨o, s _ _ z⟩)
  · exact .inr h
theorem _root_.Own.Texts.keep {K : PySem.W.Frag} {H H' : Hp} (s : Same H H') {v : V} {xs : List Str} (h : Texts K H v xs) : Texts K H' v xs := by
  cases h with
  | list h => exact .list (s.seq h)
  | tup h => exact .tup (seqT s h)
  | text y => exact .text y
theorem WayS.keep {K : PySem.W.Frag} {H H' : Hp} (s : Same H H') {v : V} {w : Way} (h : WayS K H v w) : WayS K H' v w := by
  obtain ⟨a, kv, e, h, k⟩ := h
  exact ⟨a, kv, e, s _ _ h, k.keep s⟩
theorem RowL.keep {K : PySem.W.Frag} {H H' : Hp} (s : Same H H') {v : V} {r : List Way} (h : RowL K H v r) : RowL K H' v r := by
  obtain ⟨a, vs, e, h, k⟩ := h
  exact ⟨a, vs, e, s _ _ h, L2.Paired.mapP k fun _ _ z => z.keep s⟩
def Okw (n : Nat) (w : Way) : Prop := 0 ≤ w.1 ∧ w.1 < n
section
variable {P : Program} {w : World} {K : PySem.W.Frag} {mg : Str → Option Value} {base : Heap} {A : EAd} {B : MAd}
def spCheck (K : PySem.W.Frag) (A : EAd) : Sp := fun vs H Q E => ∃ (r : Addr) (rv : List V) (R : List (List Way)), vs = [.ref r] ∧ H r = some (.lst rv) ∧ Paired (RowL K H) rv R ∧
  (∀ H', Same H H' → (∀ (i : Nat) q, R[i]? = some q → ∀ w ∈ q, Okw R.length w) → Q .non H') ∧
  ∀ (i j : Nat) (q : List Way) (w : Way) (dx : Addr) (H' : Hp), R[i]? = some q → q[j]? = some w → ¬ Okw R.length w → (∀ (i' : Nat) q', i' < i → R[i']? = some q' → ∀ w ∈ q', Okw R.length w) → (∀ (j' : Nat) w', j' < j → q[j']? = some w' → Okw R.length w') →
    H dx = none → Same H H' → H' dx = some (.xd [("place", .int j), ("state", .int i)]) → E (.ref A.c1) (some dx) H'
theorem sc_check : FnScope ["rows", "state", "row", "place", "way"] ["rows"] (defScope s_check_ways) := ⟨rfl, rfl, rfl, by decide +kernel, rfl, by decide +kernel, by decide +kernel⟩
theorem ok_check (T : TxtM K mg B) (TE : TxtE K mg A) : FnOk P w K mg base (L2.CX P w) 4 B.f3 B.d3 ["rows"] (spCheck K A) := by
  have sc := sc_check
  have G_is_whole : FnOk P w K mg base CX0 1 B.f1 B.d1 ["value"] spWhole := ok_is_whole T
  refine T.D_check_ways.F.okX sc (fun vs H Q E h => ?_) (fun cdv A1 outer s H vs Q E hr h => ?_)
  · obtain ⟨_, _, _, rfl, _⟩ := h; rfl
  · obtain ⟨r, rv, R, rfl, hrv, pR, good, bad⟩ := h
    refine ⟨_, (pss_one (ps_for (passes_of rfl) rfl (pi_enum (by rfl) T.n_enumerate (pa_cons (pv 0) pa_nil)) (pg_tup rfl (pgs_cons (pg_name (i := 1) sc.nd rfl (Or.inl rfl)) (pgs_cons (pg_name (i := 2) sc.nd rfl (Or.inl rfl)) pgs_nil)))
      (pss_one (ps_for (passes_of rfl) rfl (pi_enum (by rfl) T.n_enumerate (pa_cons (pv 2) pa_nil)) (pg_tup rfl (pgs_cons (pg_name (i := 3) sc.nd rfl (Or.inl rfl)) (pgs_cons (pg_name (i := 4) sc.nd rfl (Or.inl rfl)) pgs_nil)))
        (pss_one (ps_if (PW.pt (pw_or (pt_not (pt_val (pe_call G_is_whole (hr.mono (by decide)) rfl T.D_is_whole.g T.D_is_whole.F.kp T.D_is_whole.b .nil pass0 (pa_cons (pe_ix ix_tup (pv 4) pe_int (fun _ _ => rfl)) pa_nil)))) (pw_or (pt_cmpR op_lt (pe_ix ix_tup (pv 4) pe_int (fun _ _ => rfl)) pe_int (nomark _)) (pw_or1 (pt_cmpR op_ge (pe_ix ix_tup (pv 4) pe_int (fun _ _ => rfl)) (pe_callB call_len (by rfl) T.n_len (by decide +kernel) (pa_cons (pv 0) pa_nil)) (nomark _))))))
          (pss_one (ps_raise rfl (takes_of rfl rfl rfl rfl) (pmk_oex TE.E_BadMachine.oex TE.I_BadMachine.iC TE.I_BadMachine.tI (ok_BadMachine TE) (hr.mono (by decide)) TE.I_BadMachine.b .nil pass0 rfl TE.E_BadMachine.g (pa_cons (pv 1) (pa_cons (pv 3) pa_nil)))))
          pss_nil)))))), ?_⟩
    have shut : ∀ {b : Addr} {o : HO}, H b = none → H b = some o → False := fun e1 e2 => by rw [e1] at e2; cases e2
    refine ⟨_, rfl, r, rv, rfl, SqL.of hrv, ?_⟩
    refine for_it walk_enum (fun i σ H' => (∃ x1 x2 x3 x4, σ = [some (.ref r), x1, x2, x3, x4]) ∧ Same H H' ∧ ∀ (i' : Nat) q', i' < i → R[i']? = some q' → ∀ w ∈ q', Okw R.length w) ⟨⟨_, _, _, _, rfl⟩, Same.refl _, fun i' q' h => nomatch h⟩ (fun i σ H' _ z => SqL.of (z.2.1 _ _ hrv)) ?_ ?_
    · rintro i x σ H1 H1' hi ⟨⟨x1, x2, x3, x4, rfl⟩, s1, g1⟩ ⟨t1, u1, y, rfl, nt1, rfl, eu, hy⟩
      cases eu
      obtain ⟨q, hq, a, vs, rfl, ha, pr⟩ := pat pR hy
      have s2 : Same H (upd H1 t1 (.tup [.int (i : Nat), .ref a])) := fun b o e => Same.upd nt1 _ _ (s1 _ _ e)
      refine ⟨t1, _, rfl, SqT.of upd_same, rfl, _, _, rfl, _, _, rfl, rfl, ?_⟩
      generalize upd H1 t1 (.tup [.int (i : Nat), .ref a]) = H2 at s2 ⊢
      refine ⟨_, rfl, a, vs, rfl, SqL.of (s2 _ _ ha), ?_⟩
      refine for_it walk_enum (fun j σ H' => (∃ x3 x4, σ = [some (.ref r), some (.int (i : Nat)), some (.ref a), x3, x4]) ∧ Same H H' ∧ ∀ (j' : Nat) w', j' < j → q[j']? = some w' → Okw R.length w') ⟨⟨_, _, rfl⟩, s2, fun i' q' h => nomatch h⟩ (fun i σ H' _ z => SqL.of (z.2.1 _ _ ha)) ?_ ?_
      · rintro j x σ H3 H3' hj ⟨⟨x3, x4, rfl⟩, s3, g3⟩ ⟨t2, u2, z, rfl, nt2, rfl, eu, hz⟩
        cases eu
        obtain ⟨wy, hwy, b, kv, rfl, hb, kt⟩ := pat pr hz
        have s4 : Same H (upd H3 t2 (.tup [.int (j : Nat), .ref b])) := fun c o e => Same.upd nt2 _ _ (s3 _ _ e)
        refine ⟨t2, _, rfl, SqT.of upd_same, rfl, _, _, rfl, _, _, rfl, rfl, ?_⟩
        generalize upd H3 t2 (.tup [.int (j : Nat), .ref b]) = H4 at s4 ⊢
        have hw : SqT K H4 b [.int wy.1, kv] := SqT.of (s4 _ _ hb)
        have at0 : atI ([.int wy.1, kv] : List V) 0 = some (.int wy.1) := atI_nat (j := 0) rfl
        have go : ¬ Okw R.length wy → ([V.int (i : Nat), V.int (j : Nat)] : List V).length ≤ 1000 ∧ ∀ a, H4 a = none → spErr A.c1 ["state", "place"] (.ref a :: ([V.int (i : Nat), V.int (j : Nat)] ++ [])) (upd H4 a (exo a A.c1 none)) (fun u H2 => u = .non ∧ ∃ (dx : Addr) (fs : List (Str × V)), H2 a = some (exo a A.c1 (some dx)) ∧ H2 dx = some (exd dx fs) ∧ H4 dx = none ∧ E (.ref A.c1) (some dx) (upd (del H2 a) dx (.xd fs))) (fun _ _ _ => False) := fun nb =>
          rsE rfl (by show 2 ≤ 1000; decide) (fun u hu => .inl (by
            rcases List.mem_cons.mp hu with rfl | hu
            · exact ⟨_, rfl⟩
            · rw [List.mem_singleton.mp hu]; exact ⟨_, rfl⟩)) fun dx H5 hd s5 h5 => bad i j q wy dx H5 hq hwy nb g1 g3 (s4.free hd) (fun b o e => s5 _ _ (s4 _ _ e)) h5
        refine ⟨_, rfl, b, _, 0, _, rfl, rfl, hw, at0, wy.1, rfl, _, rfl, iteF ?_⟩
        refine ⟨_, rfl, b, _, 0, _, rfl, rfl, hw, at0, _, _, rfl, rfl, _, rfl, ?_⟩
        by_cases c1 : wy.1 < 0
        · refine ifT c1 ?_
          refine ⟨_, rfl, _, rfl, ?_⟩
          exact go fun h => by have := h.1; omega
        refine ifF c1 ?_
        refine ⟨_, rfl, b, _, 0, _, rfl, rfl, hw, at0, _, rfl, .ref r, rv.length, rfl, .inl ⟨_, SqL.of (s4 _ _ hrv), rfl⟩, _, _, rfl, rfl, _, rfl, ?_⟩
        have el : rv.length = R.length := Paired.length pR
        by_cases c2 : (rv.length : Int) ≤ wy.1
        · refine ifT c2 ?_
          refine ⟨_, rfl, _, rfl, ?_⟩
          exact go fun h => by have := h.2; omega
        refine ifF c2 ?_
        refine ⟨⟨_, _, rfl⟩, s4, fun j' w' lt hw' => ?_⟩
        by_cases c : j' < j
        · exact g3 j' w' c hw'
        · have ej : j' = j := by omega
          subst ej
          rw [hwy] at hw'
          cases hw'
          exact ⟨by omega, by omega⟩
      · rintro σ H3 ⟨⟨x3, x4, rfl⟩, s3, g3⟩
        have e : vs.length = q.length := Paired.length pr
        refine ⟨⟨_, _, _, _, rfl⟩, s3, fun i' q' lt hq' w hw => ?_⟩
        by_cases c : i' < i
        · exact g1 i' q' c hq' w hw
        · have ei : i' = i := by omega
          subst ei
          rw [hq] at hq'
          cases hq'
          obtain ⟨j', hj'⟩ := List.getElem?_of_mem hw
          exact g3 j' w (by rw [e]; exact (List.getElem?_eq_some_iff.mp hj').1) hj'
    · rintro σ H1 ⟨_, s1, g1⟩
      refine good H1 s1 fun i q hq => g1 i q ?_ hq
      rw [Paired.length pR]
      exact (List.getElem?_eq_some_iff.mp hq).1
end
end Kx

namespace Kx
open PySem L2 Own
abbrev s_init : Stmt := inClass (top 27) 0
/-- the dict of a row's ways after i signs -/
def kvUp (sg : Str) (vs : List V) : Nat → List (Key × V)
  | 0 => []
  | i + 1 => match sg.cps[i]?, vs[i]? with
    | some c, some x => putK (kvUp sg vs i) (Sum.inr (Froz.sing c)) x
    | _, _ => kvUp sg vs i
structure CAd where
  C : Addr
  f : Addr
  d : FuncData
structure TxtC (K : PySem.W.Frag) (mg : Str → Option Value) (Z : CAd) : Prop where
  cl : Cls K Z.C
  make : Mk K Z.C Z.f
  F : Fun K "__init__" "Machine.__init__" s_init Z.f Z.d
  b : Binds K Z.d ["self", "signs", "rows", "ends"] []
  g : mg "Machine" = some (.ref Z.C)
  a1 : NoAttr K Z.C "signs"
  a2 : NoAttr K Z.C "rows"
  a3 : NoAttr K Z.C "ends"
  a4 : NoAttr K Z.C "all_keys"
  a5 : NoAttr K Z.C "_ways"
  g_MOST_KEYS : ∃ t, mg "MOST_KEYS" = some (.int 12 t)
/-- what the inner displays of __init__ ask -/
def rowsTe (K : PySem.W.Frag) : TE := tThen (tLc (iList K (tVar 4)) (gTup K 2 (gCons (gName 5) (gCons (gName 6) gNil))) tYes (tTup (tCons (tVar 5) (tCons (tCall (spKl K) [] E0 (tCons (tVar 6) tNil)) tNil))) [5, 6]) (kTup K)
def waysTe (K : PySem.W.Frag) : TE := tDc (iZips K (tCons (tVar 1) (tCons (tVar 4) tNil))) (gTup K 2 (gCons (gName 8) (gCons (gName 9) gNil))) tYes (tVar 8) (tVar 9) [8, 9]
section
variable {P : Program} {w : World} {K : PySem.W.Frag} {mg : Str → Option Value} {base : Heap} {A : EAd} {B : MAd} {Z : CAd}
theorem sc_init : FnScope ["self", "signs", "rows", "ends", "row", "to", "given", "end", "sign", "way"] ["self", "signs", "rows", "ends"] (defScope s_init) := ⟨rfl, rfl, rfl, by decide +kernel, rfl, by decide +kernel, by decide +kernel⟩
end
end Kx

namespace Kx
open PySem L2 Own
/-- the turns of a display, the slots written out -/
theorem lcs_it {J : It} {n : Nat} {G : Hp → Prop} {Yl : Nat → Hp → V → Hp → Prop} {g : TG} {tt : TT} {te : TE} {vs : List Nat} {σ : L2.St} {H1 : Hp} {D : Addr} {Qd : Hp → Prop} (τ : L2.St) (ht : wipe σ vs = τ) (w : L2.Walk J n G Yl) (Pv : Nat → Hp → Prop) (h0 : Pv 0 (upd H1 D (.lst []))) (hG : ∀ i H, i ≤ n → Pv i H → G H)
    (hs : ∀ i x H H', i < n → Pv i H → Yl i H x H' → g x τ H' fun σ2 H2 => wipe σ2 vs = τ ∧ tt σ2 H2 fun b H3 =>
      if b = true then te σ2 H3 fun y H4 => ∃ acc, H4 D = some (.lst acc) ∧ acc.length < sizeLine ∧ Pv (i + 1) (upd H4 D (.lst (acc ++ [y]))) else Pv (i + 1) H3) (hd : ∀ H, Pv n H → Qd H) :
    ∃ W : Nat → Nat → Hp → Prop, (∃ m, W 0 m (upd H1 D (.lst []))) ∧ ∀ i m H, W i m H →
      (J.stop i H ∧ Qd H) ∨ (J.go i H ∧ ∃ Nx : Hp → Prop, (∀ H', Nx H' → ∃ m', m' < m ∧ W (i + 1) m' H') ∧ ∀ x H', J.yld i H x H' → g x (wipe σ vs) H' fun σ2 H2 => wipe σ2 vs = wipe σ vs ∧ tt σ2 H2 fun b H3 =>
        if b = true then te σ2 H3 fun y H4 => ∃ acc, H4 D = some (.lst acc) ∧ acc.length < sizeLine ∧ Nx (upd H4 D (.lst (acc ++ [y]))) else Nx H3) := by
  subst ht
  exact lc_it w Pv h0 hG hs hd
/-- the same of a display of a dict -/
theorem dcs_it {J : It} {n : Nat} {G : Hp → Prop} {Yl : Nat → Hp → V → Hp → Prop} {g : TG} {tt : TT} {tk tv : TE} {vs : List Nat} {σ : L2.St} {H1 : Hp} {D : Addr} {Qd : Hp → Prop} (τ : L2.St) (ht : wipe σ vs = τ) (w : L2.Walk J n G Yl) (Pv : Nat → Hp → Prop) (h0 : Pv 0 (upd H1 D (.dK []))) (hG : ∀ i H, i ≤ n → Pv i H → G H)
    (hs : ∀ i x H H', i < n → Pv i H → Yl i H x H' → g x τ H' fun σ2 H2 => wipe σ2 vs = τ ∧ tt σ2 H2 fun b H3 =>
      if b = true then tk σ2 H3 fun y H4 => tv σ2 H4 fun z H5 => ∃ kvs k, y = kV k ∧ H5 D = some (.dK kvs) ∧ kvs.length < sizeLine ∧ Pv (i + 1) (upd H5 D (.dK (putK kvs k z))) else Pv (i + 1) H3) (hd : ∀ H, Pv n H → Qd H) :
    ∃ W : Nat → Nat → Hp → Prop, (∃ m, W 0 m (upd H1 D (.dK []))) ∧ ∀ i m H, W i m H →
      (J.stop i H ∧ Qd H) ∨ (J.go i H ∧ ∃ Nx : Hp → Prop, (∀ H', Nx H' → ∃ m', m' < m ∧ W (i + 1) m' H') ∧ ∀ x H', J.yld i H x H' → g x (wipe σ vs) H' fun σ2 H2 => wipe σ2 vs = wipe σ vs ∧ tt σ2 H2 fun b H3 =>
        if b = true then tk σ2 H3 fun y H4 => tv σ2 H4 fun z H5 => ∃ kvs k, y = kV k ∧ H5 D = some (.dK kvs) ∧ kvs.length < sizeLine ∧ Nx (upd H5 D (.dK (putK kvs k z))) else Nx H3) := by
  subst ht
  refine ⟨fun i m H => m + i = n ∧ Pv i H, ⟨n, rfl, h0⟩, fun i m H ⟨e, p⟩ => ?_⟩
  have q := hG i H (by omega) p
  by_cases c : i = n
  · subst c
    exact .inl ⟨w.stops H q, hd H p⟩
  · exact .inr ⟨w.goes i H (by omega) q, Pv (i + 1), fun H' p' => ⟨m - 1, by omega, by omega, p'⟩, fun x H' y => hs i x H H' (by omega) p (w.yields i H x H' (by omega) q y)⟩
/-- a way, a row as a machine keeps them -/
def nw (w : Way) : Way := (w.1, kl w.2)
def nrm (r : List Way) : List Way := r.map nw
theorem psnoc {α β : Type} {F : α → β → Prop} : ∀ {l : List α} {m : List β} {x : α} {y : β}, Paired F l m → F x y → Paired F (l ++ [x]) (m ++ [y])
  | _, _, _, _, .nil, h => .cons h .nil
  | _, _, _, _, .cons r t, h => .cons r (psnoc t h)
/-- [(to, key_list(given)) for to, given in row] behind tuple: a row as it is kept -/
theorem row_made {K : PySem.W.Frag} {v0 v1 v2 v3 : V} {H : Hp} {a : Addr} {vs : List V} {q : List Way} {Q : VK} (ha : H a = some (.lst vs)) (pr : Paired (WayS K H) vs q) (hz : q.length ≤ 1000) (hb : ∀ w ∈ q, w.2.length + 1 < scanBound)
    (k : ∀ p H', H p = none → Same H H' → RowT H' (.ref p) (nrm q) → Q (.ref p) H') : rowsTe K [some v0, some v1, some v2, some v3, some (.ref a), none, none, none, none, none] H Q := by
  have hv : vs.length = q.length := Paired.length pr
  refine ⟨_, rfl, a, rfl, ⟨_, SqL.of ha⟩, fun D hD => ?_⟩
  have put : ∀ {H' : Hp} {xs : List V}, Same H H' → Same H (upd H' D (.lst xs)) := fun {H' xs} s1 b o e => by rw [upd_ne (ne_of_none e hD)]; exact s1 b o e
  refine lcs_it [some v0, some v1, some v2, some v3, some (.ref a), none, none, none, none, none] rfl walk_list (fun j H' => Same H H' ∧ ∃ acc, H' D = some (.lst acc) ∧ acc.length = j ∧ Paired (WayT H') acc ((q.take j).map nw)) ⟨Same.upd hD, [], upd_same, rfl, .nil⟩ (fun i H' _ z => SqL.of (z.1 _ _ ha)) ?_ ?_
  · rintro j x _ H1 hj ⟨s1, acc, hacc, hl, pa⟩ ⟨rfl, hx⟩
    obtain ⟨w, hw, b, kv, rfl, hb2, kt⟩ := pat pr hx
    refine ⟨b, _, rfl, SqT.of (s1 _ _ hb2), rfl, _, _, rfl, _, _, rfl, rfl, rfl, ?_⟩
    refine ⟨_, rfl, _, rfl, kv, w.2, rfl, kt.keep s1, hb w (List.mem_of_getElem? hw), fun p H2 hp s2 h2 => ?_⟩
    refine ⟨by show 2 ≤ sizeLine; decide, fun t ht => ⟨acc, ?_, ?_, ?_, acc ++ [.ref t], upd_same, by rw [List.length_append, hl]; rfl, ?_⟩⟩
    · exact Same.upd ht _ _ (s2 _ _ hacc)
    · rw [hl]
      exact Nat.lt_of_lt_of_le (Nat.lt_of_lt_of_le hj (hv ▸ hz)) (by decide)
    · exact put fun c o e => Same.upd ht _ _ (s2 _ _ (s1 _ _ e))
    · have tk : (q.take (j + 1)).map nw = (q.take j).map nw ++ [nw w] := by rw [List.take_add_one, hw]; simp
      rw [tk]
      have kp : ∀ b xs, H1 b = some (.tup xs) → (upd (upd H2 t (.tup [.int w.1, .ref p])) D (.lst (acc ++ [.ref t]))) b = some (.tup xs) := fun b xs e => by
        have e1 := Same.upd (o := .tup [.int w.1, .ref p]) ht _ _ (s2 _ _ e)
        rw [upd_ne (ne_of e1 (Same.upd ht _ _ (s2 _ _ hacc)) (by intro z; cases z))]
        exact e1
      have nt : t ≠ D := fun e => by
        have := s2 _ _ hacc
        rw [← e, ht] at this
        cases this
      refine psnoc (L2.Paired.mapP pa fun _ _ z => z.keep kp) ⟨t, .ref p, rfl, by rw [upd_ne nt, upd_same]; rfl, p, rfl, ?_⟩
      have e1 := Same.upd (o := .tup [.int w.1, .ref p]) ht _ _ h2
      rw [upd_ne (ne_of e1 (Same.upd ht _ _ (s2 _ _ hacc)) (by intro z; cases z))]
      exact e1
  · rintro H1 ⟨s1, acc, hacc, hl, pa⟩
    rw [hv, List.take_length] at pa
    refine .inl ⟨D, acc, rfl, SqL.of hacc, fun p hp => ?_⟩
    refine k p _ (s1.free hp) (fun b o e => Same.upd hp _ _ (s1 _ _ e)) ⟨p, acc, rfl, upd_same, L2.Paired.mapP pa fun _ _ z => z.keep (tups (Same.upd hp))⟩
theorem kvUp_len (sg : Str) (vs : List V) : ∀ i, (kvUp sg vs i).length ≤ i
  | 0 => Nat.le_refl _
  | i + 1 => by
    have ih := kvUp_len sg vs i
    unfold kvUp
    split
    · rename_i c x _ _
      have := length_putK (kvUp sg vs i) (Sum.inr (Froz.sing c)) x
      omega
    · omega
/-- {sign: way for sign, way in zip(signs, row)} -/
theorem ways_made {K : PySem.W.Frag} {v0 v2 v3 : V} {sg : Str} {H : Hp} {a : Addr} {vs : List V} {Q : VK} (ha : H a = some (.tup vs)) (asc : sg.cps.all (· < 128) = true) (hl : sg.cps.size ≤ vs.length) (hz : sg.cps.size ≤ 1000)
    (k : ∀ d H', H d = none → Same H H' → H' d = some (.dK (kvUp sg vs sg.cps.size)) → Q (.ref d) H') : waysTe K [some v0, some (.str sg), some v2, some v3, some (.ref a), none, none, none, none, none] H Q := by
  refine ⟨_, rfl, _, rfl, sg, a, vs, rfl, asc, SqT.of ha, fun D hD => ?_⟩
  refine dcs_it [some v0, some (.str sg), some v2, some v3, some (.ref a), none, none, none, none, none] rfl (walk_zips hl) (fun i H' => Same H H' ∧ H' D = some (.dK (kvUp sg vs i))) ⟨Same.upd hD, upd_same⟩ (fun i H' _ z => SqT.of (z.1 _ _ ha)) ?_ (fun H' z => k D H' hD z.1 z.2)
  rintro i x H1 H1' hi ⟨s1, h1⟩ ⟨t, y, z, rfl, nt, rfl, ey, ez⟩
  obtain ⟨c, hc, rfl⟩ := Option.map_eq_some_iff.mp ey
  have ln := kvUp_len sg vs i
  refine ⟨t, _, rfl, SqT.of upd_same, rfl, _, _, rfl, _, _, rfl, rfl, rfl, _, rfl, _, rfl, kvUp sg vs i, Sum.inr (Froz.sing c), rfl, Same.upd nt _ _ h1, ?_, ?_, ?_⟩
  · rw [sizeLine_eq]; omega
  · intro b o e
    rw [upd_ne (ne_of_none e hD)]
    exact Same.upd nt _ _ (s1 _ _ e)
  · rw [upd_same]
    have e : kvUp sg vs (i + 1) = putK (kvUp sg vs i) (Sum.inr (Froz.sing c)) z := by
      show (match sg.cps[i]?, vs[i]? with
        | some c, some x => putK (kvUp sg vs i) (Sum.inr (Froz.sing c)) x
        | _, _ => kvUp sg vs i) = _
      rw [hc, show vs[i]? = some z from ez]
    rw [e]
end Kx

namespace Kx
open PySem L2 Own
/-- an instance stands at m; all but it is as it was -/
def Kd (m : Addr) (H H' : Hp) : Prop := (∃ C dx fs, H m = some (.ins C dx fs)) ∧ ∀ b o, H b = some o → b ≠ m → H' b = some o
section
variable {m : Addr} {H H' H2 : Hp}
theorem Kd.of {C dx : Addr} {fs : List (Str × V)} (hm : H m = some (.ins C dx fs)) (s : Same H H') : Kd m H H' := ⟨⟨C, dx, fs, hm⟩, fun b o e _ => s b o e⟩
theorem Kd.trans (a : Kd m H H') (s : Same H' H2) : Kd m H H2 := ⟨a.1, fun b o e n => s b o (a.2 b o e n)⟩
theorem Kd.get (s : Kd m H H') {b : Addr} {o : HO} (e : H b = some o) (n : ∀ C dx fs, o ≠ .ins C dx fs) : H' b = some o := by
  obtain ⟨⟨C, dx, fs, hm⟩, k⟩ := s
  exact k b o e (ne_of e hm (n C dx fs))
theorem Kd.lst (s : Kd m H H') {b : Addr} {xs : List V} (e : H b = some (.lst xs)) : H' b = some (.lst xs) := s.get e fun _ _ _ z => by cases z
theorem Kd.tup (s : Kd m H H') {b : Addr} {xs : List V} (e : H b = some (.tup xs)) : H' b = some (.tup xs) := s.get e fun _ _ _ z => by cases z
end
theorem Kd.texts {K : PySem.W.Frag} {m : Addr} {H H' : Hp} (s : Kd m H H') {v : V} {xs : List Str} (h : Texts K H v xs) : Texts K H' v xs := by
  cases h with
  | list h =>
    rcases h with (h | ⟨o, h⟩) | h
    · exact .list (.inl (.inl (s.lst h)))
    · exact .list (.inl (.inr ⟨o, s.get h fun _ _ _ z => by cases z⟩))
    · exact .list (.inr h)
  | tup h =>
    rcases h with (h | ⟨o, h⟩) | h
    · exact .tup (.inl (.inl (s.tup h)))
    · exact .tup (.inl (.inr ⟨o, s.get h fun _ _ _ z => by cases z⟩))
    · exact .tup (.inr h)
  | text y => exact .text y
theorem Kd.row {K : PySem.W.Frag} {m : Addr} {H H' : Hp} (s : Kd m H H') {v : V} {r : List Way} (h : RowL K H v r) : RowL K H' v r := by
  obtain ⟨a, vs, e, h, k⟩ := h
  refine ⟨a, vs, e, s.lst h, L2.Paired.mapP k fun _ _ ⟨b, kv, e1, e2, e3⟩ => ⟨b, kv, e1, s.tup e2, s.texts e3⟩⟩
/-- the dicts of a machine's ways -/
def WaysD (sg : Str) (H : Hp) (d : V) (rw : V) : Prop := ∃ a b vs, d = .ref a ∧ rw = .ref b ∧ H b = some (.tup vs) ∧ H a = some (.dK (kvUp sg vs sg.cps.size))
/-- a machine of the signs sg, the rows R and the ends Es stands at m -/
def MachAt (C : Addr) (H : Hp) (m : Addr) (sg : Str) (R : List (List Way)) (Es : List (List Str)) : Prop := ∃ (dx r e k w : Addr) (rv ev wv : List V),
  H m = some (.ins C dx [("signs", .str sg), ("rows", .ref r), ("ends", .ref e), ("all_keys", .ref k), ("_ways", .ref w)]) ∧ H r = some (.tup rv) ∧ Paired (RowT H) rv R ∧ H e = some (.tup ev) ∧ Paired (KeysT H) ev Es ∧
  H k = some (.tup ((kl (keysOfRows R ++ Es.flatten)).map V.str)) ∧ H w = some (.tup wv) ∧ Paired (WaysD sg H) wv rv
theorem way_le {R : List (List Way)} {i : Nat} {q : List Way} {w : Way} (hq : R[i]? = some q) (hw : w ∈ q) : w.2.length ≤ (keysOfRows R).length := by
  obtain ⟨j, hj⟩ := List.getElem?_of_mem hw
  have a := flat_le (fun r : List Way => r.flatMap fun w => w.2) hq
  have b := flat_le (fun w : Way => w.2) hj
  unfold keysOfRows
  omega
theorem snap {α β : Type} (f : α → β) {l : List α} {i : Nat} {x : α} (h : l[i]? = some x) : (l.take (i + 1)).map f = (l.take i).map f ++ [f x] := by rw [List.take_add_one, h]; simp
theorem tyes {σ : L2.St} {H : Hp} {F : Bool → Hp → Prop} (h : F true H) : tYes σ H F := h
theorem mem_nrm {R : List (List Way)} {y : Str} : y ∈ keysOfRows (R.map nrm) ↔ y ∈ keysOfRows R := by
  unfold keysOfRows nrm
  simp only [List.mem_flatMap, List.mem_map]
  constructor
  · rintro ⟨_, ⟨q, hq, rfl⟩, w, hw, hy⟩
    obtain ⟨w0, hw0, rfl⟩ := List.mem_map.mp hw
    exact ⟨q, hq, w0, hw0, kl_mem.mp hy⟩
  · rintro ⟨q, hq, w, hw, hy⟩
    exact ⟨_, ⟨q, hq, rfl⟩, nw w, List.mem_map.mpr ⟨w, hw, rfl⟩, kl_mem.mpr hy⟩
theorem mem_ends {Es : List (List Str)} {y : Str} : y ∈ (Es.map kl).flatten ↔ y ∈ Es.flatten := by
  simp only [List.mem_flatten, List.mem_map]
  constructor
  · rintro ⟨_, ⟨q, hq, rfl⟩, hy⟩
    exact ⟨q, hq, kl_mem.mp hy⟩
  · rintro ⟨q, hq, hy⟩
    exact ⟨_, ⟨q, hq, rfl⟩, kl_mem.mpr hy⟩
theorem len_row : ∀ r : List Way, ((nrm r).flatMap fun w => w.2).length ≤ (r.flatMap fun w => w.2).length
  | [] => Nat.le_refl _
  | w :: r => by
    have ih := len_row r
    have k := kl_len w.2
    unfold nrm at ih ⊢
    rw [List.map_cons, List.flatMap_cons, List.flatMap_cons, List.length_append, List.length_append]
    show (kl w.2).length + _ ≤ _
    omega
theorem len_nrm : ∀ R : List (List Way), (keysOfRows (R.map nrm)).length ≤ (keysOfRows R).length
  | [] => Nat.le_refl _
  | r :: R => by
    have ih := len_nrm R
    have k := len_row r
    unfold keysOfRows at ih ⊢
    rw [List.map_cons, List.flatMap_cons, List.flatMap_cons, List.length_append, List.length_append]
    omega
theorem len_ends : ∀ Es : List (List Str), (Es.map kl).flatten.length ≤ Es.flatten.length
  | [] => Nat.le_refl _
  | e :: Es => by
    have ih := len_ends Es
    have k := kl_len e
    rw [List.map_cons, List.flatten_cons, List.flatten_cons, List.length_append, List.length_append]
    omega
theorem WaysD.keep {sg : Str} {H H' : Hp} (s : ∀ b xs, H b = some (.tup xs) → H' b = some (.tup xs)) (s2 : ∀ b xs, H b = some (.dK xs) → H' b = some (.dK xs)) {d rw1 : V} (h : WaysD sg H d rw1) : WaysD sg H' d rw1 := by
  obtain ⟨a, b, vs, e1, e2, e3, e4⟩ := h
  exact ⟨a, b, vs, e1, e2, s _ _ e3, s2 _ _ e4⟩
section
variable {P : Program} {w : World} {K : PySem.W.Frag} {mg : Str → Option Value} {base : Heap} {A : EAd} {B : MAd} {Z : CAd}
def spInit (K : PySem.W.Frag) (A : EAd) (Z : CAd) : Sp := fun vs H Q E => ∃ (m r e dx : Addr) (sg : Str) (rv ev : List V) (R : List (List Way)) (Es : List (List Str)), vs = [.ref m, .str sg, .ref r, .ref e] ∧ H m = some (.ins Z.C dx []) ∧
  H r = some (.lst rv) ∧ Paired (RowL K H) rv R ∧ H e = some (.lst ev) ∧ Paired (Texts K H) ev Es ∧ sg.cps.all (· < 128) = true ∧ sg.cps.size ≤ 1000 ∧ (∀ q ∈ R, sg.cps.size ≤ q.length ∧ q.length ≤ 1000) ∧ R.length ≤ 1000 ∧ Es.length ≤ 1000 ∧ (keysOfRows R ++ Es.flatten).length + 1 < scanBound ∧
  (∀ (i j : Nat) (q : List Way) (w : Way) (d : Addr) (H' : Hp), R[i]? = some q → q[j]? = some w → ¬ Okw R.length w → (∀ (i' : Nat) q', i' < i → R[i']? = some q' → ∀ w ∈ q', Okw R.length w) → (∀ (j' : Nat) w', j' < j → q[j']? = some w' → Okw R.length w') →
    H d = none → Kd m H H' → H' d = some (.xd [("place", .int j), ("state", .int i)]) → E (.ref A.c1) (some d) H') ∧
  ((∀ (i : Nat) q, R[i]? = some q → ∀ w ∈ q, Okw R.length w) → ∀ H', Kd m H H' → (12 < (kl (keysOfRows R ++ Es.flatten)).length → ∀ d, H d = none → H' d = some (.xd [("what", .str "keys")]) → E (.ref A.c2) (some d) H') ∧
    ((kl (keysOfRows R ++ Es.flatten)).length ≤ 12 → MachAt Z.C H' m sg (R.map nrm) (Es.map kl) → Q .non H'))
theorem ok_init (T : TxtM K mg B) (TE : TxtE K mg A) (TC : TxtC K mg Z) : FnOk P w K mg base (L2.CX P w) 5 Z.f Z.d ["self", "signs", "rows", "ends"] (spInit K A Z) := by
  have sc := sc_init
  have G_check : FnOk P w K mg base (L2.CX P w) 4 B.f3 B.d3 ["rows"] (spCheck K A) := ok_check T TE
  have G_key_list : FnOk P w K mg base CX0 1 B.f2 B.d2 ["given"] (spKl K) := ok_key_list T
  have G_keys_in : FnOk P w K mg base CX0 2 B.f4 B.d4 ["rows", "ends"] (spKin K) := ok_keys_in T
  obtain ⟨tk, g12⟩ := TC.g_MOST_KEYS
  refine TC.F.okX sc (fun vs H Q E h => ?_) (fun cdv A1 outer s H vs Q E hr h => ?_)
  · obtain ⟨_, _, _, _, _, _, _, _, _, rfl, _⟩ := h; rfl
  · obtain ⟨m, r, e, dx, sg, rv, ev, R, Es, rfl, hm, hrv, pR, hev, pE, asc, sz, rl, Rl, El, hb, bad, good⟩ := h
    refine ⟨_, (pss_cons (ps_expr (pe_callS G_check (hr.mono (by decide)) rfl T.D_check_ways.g T.D_check_ways.F.kp T.D_check_ways.b (fun σ => passAt (takes_of rfl rfl rfl rfl) σ) (pa_cons (pv 2) pa_nil)))
      (pss_cons (ps_fld (pv 0) (pv 1) rfl)
      (pss_cons (ps_fld (pv 0) (pe_tupleOf rfl T.n_tuple (pe_lc (own := [("row", 4)]) (g := gName 4) (tt := tYes) (te := rowsTe K) rfl sc.nd (pi_list (pv 2)) (blkOk_by (N := ["self", "signs", "rows", "ends", "row", "to", "given", "end", "sign", "way"]) (sc := defScope s_init) (own := [("row", 4)]) (by decide +kernel)) (fun _ _ _ _ _ => (pg_name (i := 4) sc.nd rfl (Or.inl rfl))) (fun _ _ _ _ _ => pts_nil)
        (fun _ _ _ _ _ => pe_tupleOf rfl T.n_tuple (pe_lc (own := [("to", 5), ("given", 6)]) (tt := tYes) rfl sc.nd (pi_list (pv 4)) (blkOk_by (own := [("to", 5), ("given", 6)]) (by rfl)) (fun _ _ _ _ _ => pg_tup rfl (pgs_cons (pg_name (i := 5) sc.nd rfl (Or.inl rfl)) (pgs_cons (pg_name (i := 6) sc.nd rfl (Or.inl rfl)) pgs_nil))) (fun _ _ _ _ _ => pts_nil)
          (fun _ _ _ _ _ => pe_tup (pa_cons (pv 5) (pa_cons (pe_call G_key_list (hr.mono (by decide)) rfl T.D_key_list.g T.D_key_list.F.kp T.D_key_list.b .nil pass0 (pa_cons (pv 6) pa_nil)) pa_nil))))))) rfl)
      (pss_cons (ps_fld (pv 0) (pe_tupleOf rfl T.n_tuple (pe_lc (own := [("end", 7)]) (g := gName 7) (tt := tYes) rfl sc.nd (pi_list (pv 3)) (blkOk_by (N := ["self", "signs", "rows", "ends", "row", "to", "given", "end", "sign", "way"]) (sc := defScope s_init) (own := [("end", 7)]) (by decide +kernel)) (fun _ _ _ _ _ => (pg_name (i := 7) sc.nd rfl (Or.inl rfl))) (fun _ _ _ _ _ => pts_nil)
        (fun _ _ _ _ _ => pe_call G_key_list (hr.mono (by decide)) rfl T.D_key_list.g T.D_key_list.F.kp T.D_key_list.b .nil pass0 (pa_cons (pv 7) pa_nil)))) rfl)
      (pss_cons (ps_fld (pv 0) (pe_call G_keys_in (hr.mono (by decide)) rfl T.D_keys_in.g T.D_keys_in.F.kp T.D_keys_in.b .nil pass0 (pa_cons (pe_fld (pv 0) rfl) (pa_cons (pe_fld (pv 0) rfl) pa_nil))) rfl)
      (pss_cons (ps_if (pt_cmpR op_gt (pe_callB call_len (by rfl) T.n_len (by decide +kernel) (pa_cons (pe_fld (pv 0) rfl) pa_nil)) (pe_glob (v := .int 12) rfl g12 ⟨_, rfl⟩) (nomark _))
          (pss_one (ps_raise rfl (takes_of rfl rfl rfl rfl) (pmk_oex TE.E_TooMany.oex TE.I_TooMany.iC TE.I_TooMany.tI (ok_TooMany TE) (hr.mono (by decide)) TE.I_TooMany.b .nil pass0 rfl TE.E_TooMany.g (pa_cons pe_str pa_nil))))
          pss_nil)
      (pss_one (ps_fld (pv 0) (pe_tupleOf rfl T.n_tuple (pe_lc (own := [("row", 4)]) (g := gName 4) (tt := tYes) (te := waysTe K) rfl sc.nd (pi_tup (pe_fld (pv 0) rfl)) (blkOk_by (N := ["self", "signs", "rows", "ends", "row", "to", "given", "end", "sign", "way"]) (sc := defScope s_init) (own := [("row", 4)]) (by decide +kernel)) (fun _ _ _ _ _ => (pg_name (i := 4) sc.nd rfl (Or.inl rfl))) (fun _ _ _ _ _ => pts_nil)
        (fun _ _ _ _ _ => pe_dc (own := [("sign", 8), ("way", 9)]) (tt := tYes) rfl sc.nd (pi_zips (by rfl) T.n_zip (pa_cons (pv 1) (pa_cons (pv 4) pa_nil))) (blkOk_by (own := [("sign", 8), ("way", 9)]) (by rfl)) (fun _ _ _ _ _ => pg_tup rfl (pgs_cons (pg_name (i := 8) sc.nd rfl (Or.inl rfl)) (pgs_cons (pg_name (i := 9) sc.nd rfl (Or.inl rfl)) pgs_nil))) (fun _ _ _ _ _ => pts_nil) (fun _ _ _ _ _ => pv 8) (fun _ _ _ _ _ => pv 9)))) rfl)))))))), ?_⟩
    refine ⟨_, rfl, r, rv, R, rfl, hrv, pR, fun H1 s1 ok => ?_, fun i j q w d H1 hq hw nb g1 g2 hd s1 h1 => bad i j q w d H1 hq hw nb g1 g2 hd (.of hm s1) h1⟩
    replace good := good ok
    -- self.signs
    refine ⟨_, rfl, _, rfl, m, Z.C, dx, [], rfl, s1 _ _ hm, TC.cl, TC.a1, (by show 0 < 1000; decide), ?_⟩
    have k2 : Kd m H (upd H1 m (.ins Z.C dx (putF "signs" (.str sg) []))) := ⟨⟨_, _, _, hm⟩, fun b o e n => by
      rw [upd_ne n]
      exact s1 _ _ e⟩
    have m2 : (upd H1 m (.ins Z.C dx (putF "signs" (.str sg) []))) m = some (.ins Z.C dx [("signs", .str sg)]) := upd_same
    generalize upd H1 m (.ins Z.C dx (putF "signs" (.str sg) [])) = H2 at k2 m2 ⊢
    -- self.rows
    refine ⟨_, rfl, r, rfl, ⟨_, SqL.of (k2.lst hrv)⟩, fun D hD => ?_⟩
    refine lcs_it [some (.ref m), some (.str sg), some (.ref r), some (.ref e), none, none, none, none, none, none] rfl walk_list (fun i H' => Same H2 H' ∧ ∃ acc, H' D = some (.lst acc) ∧ acc.length = i ∧ Paired (RowT H') acc ((R.take i).map nrm)) ⟨Same.upd hD, [], upd_same, rfl, .nil⟩ (fun i H' _ z => SqL.of (z.1 _ _ (k2.lst hrv))) ?_ ?_
    · rintro i x _ H3 hi ⟨s3, acc, hacc, hl, pa⟩ ⟨rfl, hx⟩
      obtain ⟨q, hq, a, vs, rfl, ha, pr⟩ := pat (L2.Paired.mapP pR fun _ _ z => k2.row z) hx
      refine ⟨rfl, ?_⟩
      refine row_made (s3 _ _ ha) (L2.Paired.mapP pr fun _ _ z => z.keep s3) (rl q (List.mem_of_getElem? hq)).2 (fun w hw => ?_) fun p H4 hp s4 h4 => ?_
      · have := way_le hq hw
        rw [List.length_append] at hb
        omega
      · have pl : rv.length = R.length := Paired.length pR
        have kp : ∀ b xs, H4 b = some (.tup xs) → (upd H4 D (.lst (acc ++ [.ref p]))) b = some (.tup xs) := fun b xs e => by
          rw [upd_ne (ne_of e (s4 _ _ hacc) (by intro z; cases z))]
          exact e
        refine ⟨acc, s4 _ _ hacc, ?_, fun b o e => ?_, acc ++ [.ref p], upd_same, by rw [List.length_append, hl]; rfl, ?_⟩
        · rw [sizeLine_eq]; omega
        · rw [upd_ne (ne_of_none e hD)]
          exact s4 _ _ (s3 _ _ e)
        · rw [snap nrm hq]
          exact psnoc (L2.Paired.mapP pa fun _ _ z => z.keep fun b xs e => kp b xs (s4 _ _ e)) (h4.keep kp)
    rintro H3 ⟨s3, rv3, hacc, hl, pa⟩
    rw [show rv.length = R.length from Paired.length pR, List.take_length] at pa
    refine .inl ⟨D, rv3, rfl, SqL.of hacc, fun r3 hr3 => ?_⟩
    have s4 : Same H2 (upd H3 r3 (.tup rv3)) := fun b o e => Same.upd hr3 _ _ (s3 _ _ e)
    have r4 : (upd H3 r3 (.tup rv3)) r3 = some (.tup rv3) := upd_same
    have pa4 : Paired (RowT (upd H3 r3 (.tup rv3))) rv3 (R.map nrm) := L2.Paired.mapP pa fun _ _ z => z.keep (tups (Same.upd hr3))
    generalize upd H3 r3 (.tup rv3) = H4 at s4 r4 pa4 ⊢
    refine ⟨_, rfl, m, Z.C, dx, [("signs", .str sg)], rfl, s4 _ _ m2, TC.cl, TC.a2, (by show 1 < 1000; decide), ?_⟩
    have next : ∀ {Ha Hb : Hp} {fs fs' : List (Str × V)}, Kd m H Ha → Same Ha Hb → Hb m = some (.ins Z.C dx fs) → Kd m H (upd Hb m (.ins Z.C dx fs')) := fun {Ha Hb fs fs'} k s e => ⟨k.1, fun b o e1 n => by
      rw [upd_ne n]
      exact s _ _ (k.2 b o e1 n)⟩
    have k5 : Kd m H (upd H4 m (.ins Z.C dx (putF "rows" (.ref r3) [("signs", .str sg)]))) := next k2 s4 (s4 _ _ m2)
    have m5 : (upd H4 m (.ins Z.C dx (putF "rows" (.ref r3) [("signs", .str sg)]))) m = some (.ins Z.C dx [("signs", .str sg), ("rows", .ref r3)]) := upd_same
    have j5 : ∀ b xs, H4 b = some (.tup xs) → (upd H4 m (.ins Z.C dx (putF "rows" (.ref r3) [("signs", .str sg)]))) b = some (.tup xs) := fun b xs e => by
      rw [upd_ne (ne_of e (s4 _ _ m2) (by intro z; cases z))]
      exact e
    have r5 := j5 _ _ r4
    have pa5 := L2.Paired.mapP pa4 fun _ _ z => z.keep j5
    clear j5
    generalize upd H4 m (.ins Z.C dx (putF "rows" (.ref r3) [("signs", .str sg)])) = H5 at k5 m5 r5 pa5 ⊢
    -- self.ends
    refine ⟨_, rfl, e, rfl, ⟨_, SqL.of (k5.lst hev)⟩, fun D5 hD5 => ?_⟩
    refine lcs_it [some (.ref m), some (.str sg), some (.ref r), some (.ref e), none, none, none, none, none, none] rfl walk_list (fun i H' => Same H5 H' ∧ ∃ acc, H' D5 = some (.lst acc) ∧ acc.length = i ∧ Paired (KeysT H') acc ((Es.take i).map kl)) ⟨Same.upd hD5, [], upd_same, rfl, .nil⟩ (fun i H' _ z => SqL.of (z.1 _ _ (k5.lst hev))) ?_ ?_
    · rintro i x _ H6 hi ⟨s6, acc, hacc, hl, pa⟩ ⟨rfl, hx⟩
      obtain ⟨ks, hks, kt⟩ := pat (L2.Paired.mapP pE fun _ _ z => k5.texts z) hx
      have l1 := flat_le id hks
      have l2 : (Es.flatMap id).length = Es.flatten.length := by rw [List.flatMap_id]
      refine ⟨rfl, _, rfl, x, ks, rfl, kt.keep s6, ?_, fun p H7 hp s7 h7 => ?_⟩
      · have l3 : (id ks).length = ks.length := rfl
        rw [List.length_append] at hb
        omega
      · have pl : ev.length = Es.length := Paired.length pE
        have kp : ∀ b xs, H7 b = some (.tup xs) → (upd H7 D5 (.lst (acc ++ [.ref p]))) b = some (.tup xs) := fun b xs e => by
          rw [upd_ne (ne_of e (s7 _ _ hacc) (by intro z; cases z))]
          exact e
        refine ⟨acc, s7 _ _ hacc, ?_, fun b o e => ?_, acc ++ [.ref p], upd_same, by rw [List.length_append, hl]; rfl, ?_⟩
        · rw [sizeLine_eq]; omega
        · rw [upd_ne (ne_of_none e hD5)]
          exact s7 _ _ (s6 _ _ e)
        · rw [snap kl hks]
          exact psnoc (L2.Paired.mapP pa fun _ _ z => z.keep fun b xs e => kp b xs (s7 _ _ e)) ⟨p, rfl, kp _ _ h7⟩
    rintro H6 ⟨s6, ev6, hacc6, hl6, pe6⟩
    rw [show ev.length = Es.length from Paired.length pE, List.take_length] at pe6
    refine .inl ⟨D5, ev6, rfl, SqL.of hacc6, fun e6 he6 => ?_⟩
    have s7 : Same H5 (upd H6 e6 (.tup ev6)) := fun b o e => Same.upd he6 _ _ (s6 _ _ e)
    have e7 : (upd H6 e6 (.tup ev6)) e6 = some (.tup ev6) := upd_same
    have pe7 : Paired (KeysT (upd H6 e6 (.tup ev6))) ev6 (Es.map kl) := L2.Paired.mapP pe6 fun _ _ z => z.keep (tups (Same.upd he6))
    generalize upd H6 e6 (.tup ev6) = H7 at s7 e7 pe7 ⊢
    refine ⟨_, rfl, m, Z.C, dx, [("signs", .str sg), ("rows", .ref r3)], rfl, s7 _ _ m5, TC.cl, TC.a3, (by show 2 < 1000; decide), ?_⟩
    have k8 : Kd m H (upd H7 m (.ins Z.C dx (putF "ends" (.ref e6) [("signs", .str sg), ("rows", .ref r3)]))) := next k5 s7 (s7 _ _ m5)
    have m8 : (upd H7 m (.ins Z.C dx (putF "ends" (.ref e6) [("signs", .str sg), ("rows", .ref r3)]))) m = some (.ins Z.C dx [("signs", .str sg), ("rows", .ref r3), ("ends", .ref e6)]) := upd_same
    have j8 : ∀ b xs, H7 b = some (.tup xs) → (upd H7 m (.ins Z.C dx (putF "ends" (.ref e6) [("signs", .str sg), ("rows", .ref r3)]))) b = some (.tup xs) := fun b xs e => by
      rw [upd_ne (ne_of e (s7 _ _ m5) (by intro z; cases z))]
      exact e
    have r8 := j8 _ _ (s7 _ _ r5)
    have pa8 := L2.Paired.mapP pa5 fun _ _ z => z.keep fun b xs e => j8 b xs (s7 _ _ e)
    have e8 := j8 _ _ e7
    have pe8 := L2.Paired.mapP pe7 fun _ _ z => z.keep j8
    clear j8
    generalize upd H7 m (.ins Z.C dx (putF "ends" (.ref e6) [("signs", .str sg), ("rows", .ref r3)])) = H8 at k8 m8 r8 pa8 e8 pe8 ⊢
    -- self.all_keys
    have mem : ∀ y, y ∈ keysOfRows (R.map nrm) ++ (Es.map kl).flatten ↔ y ∈ keysOfRows R ++ Es.flatten := fun y => by
      rw [List.mem_append, List.mem_append, mem_nrm, mem_ends]
    have len8 : (keysOfRows (R.map nrm) ++ (Es.map kl).flatten).length ≤ (keysOfRows R ++ Es.flatten).length := by
      have a := len_nrm R
      have b := len_ends Es
      rw [List.length_append, List.length_append]
      omega
    refine ⟨_, rfl, m, Z.C, dx, _, _, rfl, m8, TC.cl, TC.a2, rfl, _, rfl, m, Z.C, dx, _, _, rfl, m8, TC.cl, TC.a3, rfl, ?_⟩
    refine ⟨r3, e6, rv3, ev6, R.map nrm, Es.map kl, rfl, r8, pa8, e8, pe8, by omega, fun k9 H9 hk9 s9 h9 => ?_⟩
    rw [kl_congr mem] at h9
    refine ⟨_, rfl, m, Z.C, dx, [("signs", .str sg), ("rows", .ref r3), ("ends", .ref e6)], rfl, s9 _ _ m8, TC.cl, TC.a4, (by show 3 < 1000; decide), ?_⟩
    have k10 : Kd m H (upd H9 m (.ins Z.C dx (putF "all_keys" (.ref k9) [("signs", .str sg), ("rows", .ref r3), ("ends", .ref e6)]))) := next k8 s9 (s9 _ _ m8)
    have m10 : (upd H9 m (.ins Z.C dx (putF "all_keys" (.ref k9) [("signs", .str sg), ("rows", .ref r3), ("ends", .ref e6)]))) m = some (.ins Z.C dx [("signs", .str sg), ("rows", .ref r3), ("ends", .ref e6), ("all_keys", .ref k9)]) := upd_same
    have j10 : ∀ b xs, H9 b = some (.tup xs) → (upd H9 m (.ins Z.C dx (putF "all_keys" (.ref k9) [("signs", .str sg), ("rows", .ref r3), ("ends", .ref e6)]))) b = some (.tup xs) := fun b xs e => by
      rw [upd_ne (ne_of e (s9 _ _ m8) (by intro z; cases z))]
      exact e
    have f10 : ∀ d, (upd H9 m (.ins Z.C dx (putF "all_keys" (.ref k9) [("signs", .str sg), ("rows", .ref r3), ("ends", .ref e6)]))) d = none → H d = none := fun d hd => by
      have nd : d ≠ m := fun e => by rw [e, m10] at hd; cases hd
      rw [upd_ne nd] at hd
      cases c : H d with
      | none => rfl
      | some o =>
        have := s9 _ _ (k8.2 d o c nd)
        rw [hd] at this
        cases this
    have r10 := j10 _ _ (s9 _ _ r8)
    have pa10 := L2.Paired.mapP pa8 fun _ _ z => z.keep fun b xs e => j10 b xs (s9 _ _ e)
    have e10 := j10 _ _ (s9 _ _ e8)
    have pe10 := L2.Paired.mapP pe8 fun _ _ z => z.keep fun b xs e => j10 b xs (s9 _ _ e)
    have a10 := j10 _ _ h9
    clear j10
    generalize upd H9 m (.ins Z.C dx (putF "all_keys" (.ref k9) [("signs", .str sg), ("rows", .ref r3), ("ends", .ref e6)])) = H10 at k10 m10 f10 r10 pa10 e10 pe10 a10 ⊢
    -- if len(self.all_keys) > MOST_KEYS
    refine ⟨_, rfl, m, Z.C, dx, _, _, rfl, m10, TC.cl, TC.a4, rfl, .ref k9, _, rfl, .inr ⟨_, SqT.of a10, rfl⟩, _, _, rfl, rfl, _, rfl, ?_⟩
    rw [List.length_map]
    by_cases c : (12 : Int) < ((kl (keysOfRows R ++ Es.flatten)).length : Nat)
    · refine ifT c ?_
      refine rsE rfl (by show 1 ≤ 1000; decide) (fun u hu => ?_) fun d H11 hd s11 h11 => (good H11 (k10.trans s11)).1 (by omega) d (f10 d hd) h11
      rw [List.mem_singleton.mp hu]
      exact .inr ⟨_, rfl⟩
    refine ifF c ?_
    -- self._ways
    refine ⟨_, rfl, m, Z.C, dx, _, _, rfl, m10, TC.cl, TC.a2, rfl, r3, rfl, ⟨_, SqT.of r10⟩, fun W hW => ?_⟩
    have rl3 : rv3.length = R.length := (Paired.length pa10).trans (List.length_map ..)
    refine lcs_it [some (.ref m), some (.str sg), some (.ref r), some (.ref e), none, none, none, none, none, none] rfl walk_tup (fun i H' => Same H10 H' ∧ ∃ acc, H' W = some (.lst acc) ∧ acc.length = i ∧ Paired (WaysD sg H') acc (rv3.take i)) ⟨Same.upd hW, [], upd_same, rfl, .nil⟩ (fun i H' _ z => SqT.of (z.1 _ _ r10)) ?_ ?_
    · rintro i x _ H11 hi ⟨s11, acc, hacc, hl, pw⟩ ⟨rfl, hx⟩
      obtain ⟨row, hrow, a, vs, rfl, ha, pr⟩ := pat pa10 hx
      rw [List.getElem?_map] at hrow
      obtain ⟨q, hq, rfl⟩ := Option.map_eq_some_iff.mp hrow
      have vl : vs.length = q.length := (Paired.length pr).trans (List.length_map ..)
      have q1 := rl q (List.mem_of_getElem? hq)
      refine ⟨rfl, tyes ?_⟩
      simp only [if_true]
      refine ways_made (s11 _ _ ha) asc (by omega) sz fun d H12 hd s12 h12 => ?_
      have kt : ∀ b xs, H12 b = some (.tup xs) → (upd H12 W (.lst (acc ++ [.ref d]))) b = some (.tup xs) := fun b xs e => by
        rw [upd_ne (ne_of e (s12 _ _ hacc) (by intro z; cases z))]
        exact e
      have kd : ∀ b xs, H12 b = some (.dK xs) → (upd H12 W (.lst (acc ++ [.ref d]))) b = some (.dK xs) := fun b xs e => by
        rw [upd_ne (ne_of e (s12 _ _ hacc) (by intro z; cases z))]
        exact e
      refine ⟨acc, s12 _ _ hacc, ?_, fun b o e => ?_, acc ++ [.ref d], upd_same, by rw [List.length_append, hl]; rfl, ?_⟩
      · rw [sizeLine_eq]; omega
      · rw [upd_ne (ne_of_none e hW)]
        exact s12 _ _ (s11 _ _ e)
      · have tk : rv3.take (i + 1) = rv3.take i ++ [.ref a] := by rw [List.take_add_one, hx]; rfl
        rw [tk]
        exact psnoc (L2.Paired.mapP pw fun _ _ z => z.keep (fun b xs e => kt b xs (s12 _ _ e)) fun b xs e => kd b xs (s12 _ _ e)) ⟨d, a, vs, rfl, rfl, kt _ _ (s12 _ _ (s11 _ _ ha)), kd _ _ h12⟩
    rintro H11 ⟨s11, wv, hacc, hl, pw⟩
    rw [List.take_length] at pw
    refine .inl ⟨W, wv, rfl, SqL.of hacc, fun w6 hw6 => ?_⟩
    have s12 : Same H10 (upd H11 w6 (.tup wv)) := fun b o e => Same.upd hw6 _ _ (s11 _ _ e)
    have w12 : (upd H11 w6 (.tup wv)) w6 = some (.tup wv) := upd_same
    have pw12 : Paired (WaysD sg (upd H11 w6 (.tup wv))) wv rv3 := L2.Paired.mapP pw fun _ _ z => z.keep (tups (Same.upd hw6)) fun b xs e => Same.upd hw6 _ _ e
    generalize upd H11 w6 (.tup wv) = H12 at s12 w12 pw12 ⊢
    refine ⟨_, rfl, m, Z.C, dx, [("signs", .str sg), ("rows", .ref r3), ("ends", .ref e6), ("all_keys", .ref k9)], rfl, s12 _ _ m10, TC.cl, TC.a5, (by show 4 < 1000; decide), ?_⟩
    have j : ∀ b xs, H12 b = some (.tup xs) → (upd H12 m (.ins Z.C dx (putF "_ways" (.ref w6) [("signs", .str sg), ("rows", .ref r3), ("ends", .ref e6), ("all_keys", .ref k9)]))) b = some (.tup xs) := fun b xs e => by
      rw [upd_ne (ne_of e (s12 _ _ m10) (by intro z; cases z))]
      exact e
    have jd : ∀ b xs, H12 b = some (.dK xs) → (upd H12 m (.ins Z.C dx (putF "_ways" (.ref w6) [("signs", .str sg), ("rows", .ref r3), ("ends", .ref e6), ("all_keys", .ref k9)]))) b = some (.dK xs) := fun b xs e => by
      rw [upd_ne (ne_of e (s12 _ _ m10) (by intro z; cases z))]
      exact e
    refine (good _ (next k10 s12 (s12 _ _ m10))).2 (by omega) ⟨dx, r3, e6, k9, w6, rv3, ev6, wv, upd_same, j _ _ (s12 _ _ r10), ?_, j _ _ (s12 _ _ e10), ?_, ?_, j _ _ w12, ?_⟩
    · exact L2.Paired.mapP pa10 fun _ _ z => z.keep fun b xs e => j b xs (s12 _ _ e)
    · exact L2.Paired.mapP pe10 fun _ _ z => z.keep fun b xs e => j b xs (s12 _ _ e)
    · rw [kl_congr mem]
      exact j _ _ (s12 _ _ a10)
    · exact L2.Paired.mapP pw12 fun _ _ z => z.keep j jd
end
end Kx

namespace Kx
open PySem L2 Own
abbrev s_are_signs : Stmt := top 9
abbrev s_is_key : Stmt := top 10
abbrev s_state_line : Stmt := top 19
abbrev s_spaced_words : Stmt := top 21
abbrev s_are_keys : Stmt := top 25
structure TAd where
  fk : Addr
  fa : Addr
  fl : Addr
  fs : Addr
  dk : FuncData
  da : FuncData
  dl : FuncData
  ds : FuncData
structure TxtT (K : PySem.W.Frag) (mg : Str → Option Value) (L : TAd) : Prop where
  D_is_key : DefT K mg "is_key" "is_key" s_is_key ["word"] L.fk L.dk
  D_are_keys : DefT K mg "are_keys" "are_keys" s_are_keys ["words"] L.fa L.da
  D_state_line : DefT K mg "state_line" "state_line" s_state_line ["ways", "end"] L.fl L.dl
  D_spaced_words : DefT K mg "spaced_words" "spaced_words" s_spaced_words ["line"] L.fs L.ds
  g_LONGEST_KEY : ∃ t, mg "LONGEST_KEY" = some (.int 12 t)
  g_KEY_LETTERS : ∃ t, mg "KEY_LETTERS" = some (.str "abcdefghijklmnopqrstuvwxyz0123456789" t)
  n_len : mg "len" = none
  n_set : mg "set" = none
  n_all : mg "all" = none
  n_str : mg "str" = none
section
variable {P : Program} {w : World} {K : PySem.W.Frag} {mg : Str → Option Value} {base : Heap} {L : TAd}
abbrev kLet : Str := "abcdefghijklmnopqrstuvwxyz0123456789"
/-- a text that can be a key -/
def keyOk (y : Str) : Bool := !decide (y.cps.size < 1) && !decide (12 < y.cps.size) && y.cps.toList.all fun c => decide (c ∈ kLet.cps.toList)
def spIsKey : Sp := fun vs H Q _ => ∃ y : Str, vs = [.str y] ∧ y.cps.size ≤ sizeLine ∧ ∀ H', Same H H' → Q (.bl (keyOk y)) H'
theorem sc_is_key : FnScope ["word", "letter"] ["word"] (defScope s_is_key) := ⟨rfl, rfl, rfl, by decide +kernel, rfl, by decide +kernel, by decide +kernel⟩
def rInSign : R2 := fun x y H Q => ∃ (c : Nat) (z : Str), x = .str ⟨#[c]⟩ ∧ y = .str z ∧ Q (.bl (decide (c ∈ z.cps.toList))) H
theorem ok_is_key (T : TxtT K mg L) : FnOk P w K mg base CX0 1 L.fk L.dk ["word"] spIsKey := by
  have sc := sc_is_key
  obtain ⟨t1, g1⟩ := T.g_LONGEST_KEY
  obtain ⟨t2, g2⟩ := T.g_KEY_LETTERS
  refine T.D_is_key.F.ok sc (fun vs H Q E h => ?_) (fun cdv A1 outer s0 H vs Q E hr h => ?_)
  · obtain ⟨_, rfl, _⟩ := h; rfl
  · obtain ⟨y, rfl, yl, k⟩ := h
    refine ⟨_, (pss_cons (ps_if (PW.pt (pw_or (pt_cmpR op_lt (pe_callB call_len (by rfl) T.n_len (by decide +kernel) (pa_cons (pv 0) pa_nil)) pe_int (nomark _)) (pw_or1 (pt_cmpR op_gt (pe_callB call_len (by rfl) T.n_len (by decide +kernel) (pa_cons (pv 0) pa_nil)) (pe_glob (v := .int 12) rfl g1 ⟨_, rfl⟩) (nomark _))))) (pss_one (ps_ret pe_bl)) pss_nil)
      (pss_one (ps_ret (pe_callB (cr_all rfl) (by rfl) T.n_all (by decide +kernel) (pa_cons (pe_lc (own := [("letter", 1)]) (g := gName 1) (tt := tYes) (te := tOp rInSign (tVar 1) (tC (.str kLet))) rfl sc.nd (pi_str (pv 0)) (blkOk_by (N := ["word", "letter"]) (sc := defScope s_is_key) (own := [("letter", 1)]) (by decide +kernel))
        (fun _ _ _ _ _ => (pg_name (i := 1) sc.nd rfl (Or.inl rfl))) (fun _ _ _ _ _ => pts_nil) (fun _ _ _ _ _ => pe_cmpR op_in_sign (pv 1) (pe_glob (v := .str kLet) rfl g2 ⟨_, rfl⟩) (by rfl))) pa_nil))))), ?_⟩
    refine ⟨_, rfl, .str y, y.cps.size, rfl, ⟨yl, rfl⟩, _, _, rfl, rfl, _, rfl, ?_⟩
    by_cases c1 : y.cps.size < 1
    · rw [decide_eq_true (by omega : (y.cps.size : Int) < 1)]
      refine iteT ?_
      have e : keyOk y = false := by unfold keyOk; rw [decide_eq_true c1]; rfl
      rw [e] at k
      exact k H (Same.refl _)
    rw [decide_eq_false (by omega : ¬ (y.cps.size : Int) < 1)]
    refine iteF ?_
    refine ⟨_, rfl, .str y, y.cps.size, rfl, ⟨yl, rfl⟩, _, _, rfl, rfl, _, rfl, ?_⟩
    by_cases c2 : 12 < y.cps.size
    · rw [decide_eq_true (by omega : (12 : Int) < (y.cps.size : Int))]
      refine iteT ?_
      have e : keyOk y = false := by unfold keyOk; rw [decide_eq_true c2]; simp
      rw [e] at k
      exact k H (Same.refl _)
    rw [decide_eq_false (by omega : ¬ (12 : Int) < (y.cps.size : Int))]
    refine iteF ?_
    refine ⟨_, rfl, y, rfl, fun D hD => ?_⟩
    refine lcs_it [some (.str y), none] rfl walk_str (fun i H' => Same H H' ∧ H' D = some (.lst (((y.cps.toList.take i).map fun c => decide (c ∈ kLet.cps.toList)).map V.bl))) ⟨Same.upd hD, upd_same⟩ (fun _ _ _ _ => trivial) ?_ ?_
    · rintro i x _ H2 hi ⟨s2, h2⟩ ⟨rfl, c, hc, rfl⟩
      have hct : y.cps.toList[i]? = some c := by rw [Array.getElem?_toList]; exact hc
      refine ⟨rfl, _, rfl, c, kLet, rfl, rfl, _, h2, ?_, fun b o z => ?_, ?_⟩
      · rw [List.length_map, List.length_map, List.length_take, Array.length_toList, sizeLine_eq]
        omega
      · rw [upd_ne (ne_of_none z hD)]
        exact s2 _ _ z
      · rw [upd_same, List.take_add_one, hct, List.map_append, List.map_append]
        rfl
    · rintro H2 ⟨s2, h2⟩
      have eT : y.cps.toList.take y.cps.size = y.cps.toList := List.take_of_length_le (by simp)
      rw [eT] at h2
      refine ⟨D, _, rfl, SqL.of h2, ?_⟩
      have e : keyOk y = (y.cps.toList.map fun c => decide (c ∈ kLet.cps.toList)).all id := by
        unfold keyOk
        rw [decide_eq_false c1, decide_eq_false c2, List.all_map]
        rfl
      rw [← e]
      exact k H2 s2
/-- different keys -/
def keysOk (ks : List Str) : Bool := decide ks.Nodup && ks.all keyOk
def spAreKeys : Sp := fun vs H Q _ => ∃ (q : Addr) (ks : List Str), vs = [.ref q] ∧ H q = some (.lst (ks.map V.str)) ∧ ks.length + 1 < scanBound ∧ (∀ y ∈ ks, y.cps.size ≤ sizeLine) ∧ ∀ H', Same H H' → Q (.bl (keysOk ks)) H'
theorem sc_are_keys : FnScope ["words", "word"] ["words"] (defScope s_are_keys) := ⟨rfl, rfl, rfl, by decide +kernel, rfl, by decide +kernel, by decide +kernel⟩
theorem nd_sub_len {α : Type} [DecidableEq α] : ∀ {l m : List α}, l.Nodup → (∀ x ∈ l, x ∈ m) → l.length ≤ m.length
  | [], _, _, _ => Nat.zero_le _
  | a :: l, m, nd, h => by
    obtain ⟨na, nl⟩ := List.nodup_cons.mp nd
    have ha := h a List.mem_cons_self
    have ih := nd_sub_len (l := l) (m := m.erase a) nl fun x hx => (List.mem_erase_of_ne fun z : x = a => na (z ▸ hx)).mpr (h x (List.mem_cons_of_mem _ hx))
    rw [List.length_erase_of_mem ha] at ih
    have := List.length_pos_of_mem ha
    rw [List.length_cons]
    omega
theorem nodup_len {α : Type} [DecidableEq α] {l ks : List α} (nd : l.Nodup) (m : ∀ y, y ∈ l ↔ y ∈ ks) : l.length = ks.length ↔ ks.Nodup := by
  constructor
  · intro e
    have h : ∀ {ks : List α} {l : List α}, l.Nodup → (∀ y, y ∈ l → y ∈ ks) → l.length = ks.length → ks.Nodup := by
      intro ks
      induction ks with
      | nil => exact fun _ _ _ => .nil
      | cons a r ih =>
        intro l nd sub e
        rw [List.nodup_cons]
        have le := nd_sub_len (l := l.erase a) (m := r) (nd.erase a) fun x hx => by
          have hne : x ≠ a := fun z => by
            subst z
            exact (List.Nodup.not_mem_erase nd) hx
          exact (List.mem_cons.mp (sub x (List.mem_of_mem_erase hx))).resolve_left hne
        rw [List.length_cons] at e
        have am : a ∈ l := by
          by_cases c : a ∈ l
          · exact c
          · rw [List.erase_of_not_mem c] at le
            omega
        have el : (l.erase a).length = r.length := by
          rw [List.length_erase_of_mem am]
          omega
        have sub2 : ∀ y, y ∈ l.erase a → y ∈ r := fun x hx => by
          have hne : x ≠ a := fun z => by
            subst z
            exact (List.Nodup.not_mem_erase nd) hx
          exact (List.mem_cons.mp (sub x (List.mem_of_mem_erase hx))).resolve_left hne
        refine ⟨fun ar => ?_, ih (nd.erase a) sub2 el⟩
        -- a stands in r: then l.erase a fits in r without a
        have le2 := nd_sub_len (l := l.erase a) (m := r.erase a) (nd.erase a) fun x hx => by
          have hne : x ≠ a := fun z => by
            subst z
            exact (List.Nodup.not_mem_erase nd) hx
          exact (List.mem_erase_of_ne hne).mpr (sub2 x hx)
        rw [List.length_erase_of_mem ar] at le2
        have := List.length_pos_of_mem ar
        omega
    exact h nd (fun y hy => (m y).mp hy) e
  · intro nk
    exact Nat.le_antisymm (nd_sub_len nd fun x hx => (m x).mp hx) (nd_sub_len nk fun x hx => (m x).mpr hx)
theorem ok_are_keys (T : TxtT K mg L) : FnOk P w K mg base CX0 2 L.fa L.da ["words"] spAreKeys := by
  have sc := sc_are_keys
  have G_is_key : FnOk P w K mg base CX0 1 L.fk L.dk ["word"] spIsKey := ok_is_key T
  refine T.D_are_keys.F.ok sc (fun vs H Q E h => ?_) (fun cdv A1 outer s0 H vs Q E hr h => ?_)
  · obtain ⟨_, _, rfl, _⟩ := h; rfl
  · obtain ⟨q, ks, rfl, hq, kl1, km, k⟩ := h
    refine ⟨_, (pss_one (ps_ret (pe_and (pe_cmpR op_eq (pe_callB cr_lenT (by rfl) T.n_len (by decide +kernel) (pa_cons (pe_callTy (cr_setT rfl) (by rfl) T.n_set (by decide +kernel) (pa_cons (pv 0) pa_nil)) pa_nil)) (pe_callB call_len (by rfl) T.n_len (by decide +kernel) (pa_cons (pv 0) pa_nil)) (nomark _))
      (pe_one (pe_callB (cr_all rfl) (by rfl) T.n_all (by decide +kernel) (pa_cons (pe_lc (own := [("word", 1)]) (g := gName 1) (tt := tYes) (te := tCall spIsKey [] E0 (tCons (tVar 1) tNil)) rfl sc.nd (pi_list (pv 0)) (blkOk_by (N := ["words", "word"]) (sc := defScope s_are_keys) (own := [("word", 1)]) (by decide +kernel))
        (fun _ _ _ _ _ => (pg_name (i := 1) sc.nd rfl (Or.inl rfl))) (fun _ _ _ _ _ => pts_nil) (fun _ _ _ _ _ => pe_call G_is_key (hr.mono (by decide)) rfl T.D_is_key.g T.D_is_key.F.kp T.D_is_key.b .nil pass0 (pa_cons (pv 1) pa_nil))) pa_nil)))))), ?_⟩
    refine ⟨_, rfl, .ref q, ks, rfl, .list (SqL.of hq), kl1, fun p4 l4 hp4 nd4 hm4 hl4 => ?_⟩
    refine ⟨p4, l4, rfl, upd_same, by omega, ?_⟩
    have h4 := Same.upd (o := SetT P w p4 l4) hp4
    refine ⟨_, rfl, .ref q, ks.length, rfl, .inl ⟨_, SqL.of (h4 _ _ hq), by rw [List.length_map]⟩, rfl, ?_⟩
    have ed : decide (V.int (l4.length : Nat) = V.int (ks.length : Nat)) = decide ks.Nodup := by
      rw [decide_eq_decide]
      exact ⟨fun z => (nodup_len nd4 hm4).mp (Int.ofNat.inj (V.int.inj z)), fun z => by rw [(nodup_len nd4 hm4).mpr z]⟩
    rw [ed]
    refine ⟨_, rfl, ?_⟩
    by_cases c : ks.Nodup
    · rw [decide_eq_true c]
      refine iteT ?_
      refine ⟨_, rfl, q, rfl, ⟨_, SqL.of (h4 _ _ hq)⟩, fun D hD => ?_⟩
      have nD : H D = none := h4.free hD
      refine lcs_it [some (.ref q), none] rfl walk_list (fun i H' => Same H H' ∧ H' D = some (.lst (((ks.take i).map keyOk).map V.bl))) ⟨fun b o z => Same.upd hD _ _ (h4 _ _ z), upd_same⟩ (fun i H' _ z => SqL.of (z.1 _ _ hq)) ?_ ?_
      · rintro i x _ H2 hi ⟨s2, h2⟩ ⟨rfl, hx⟩
        rw [List.getElem?_map] at hx
        obtain ⟨y, hy, rfl⟩ := Option.map_eq_some_iff.mp hx
        refine ⟨rfl, _, rfl, y, rfl, km y (List.mem_of_getElem? hy), fun H3 s3 => ?_⟩
        refine ⟨_, s3 _ _ h2, ?_, fun b o z => ?_, ?_⟩
        · rw [List.length_map, List.length_map, List.length_take, sizeLine_eq]
          have e : scanBound = 4096 := rfl
          omega
        · rw [upd_ne (ne_of_none z nD)]
          exact s3 _ _ (s2 _ _ z)
        · rw [upd_same, List.take_add_one, hy, List.map_append, List.map_append]
          rfl
      · rintro H2 ⟨s2, h2⟩
        have eT : ks.take (ks.map V.str).length = ks := List.take_of_length_le (by simp)
        rw [eT] at h2
        refine ⟨D, _, rfl, SqL.of h2, ?_⟩
        have e : keysOk ks = (ks.map keyOk).all id := by
          unfold keysOk
          rw [decide_eq_true c, List.all_map]
          rfl
        rw [← e]
        exact k H2 s2
    · rw [decide_eq_false c]
      refine iteF ?_
      have e : keysOk ks = false := by unfold keysOk; rw [decide_eq_false c]; rfl
      rw [e] at k
      exact k _ h4
/-! ### spaced words, and the line of a state -/
/-- the words of a line -/
def lineW (y : Str) : List Str := (Txt.split y " ").filter fun z => !decide (V.str z = V.str "")
def spSpaced : Sp := fun vs H Q _ => ∃ y : Str, vs = [.str y] ∧ y.cps.size + 2 ≤ sizeLine ∧ (Txt.split y " ").length < sizeLine ∧ ∀ (p : Addr) H', H p = none → Same H H' → H' p = some (.lst ((lineW y).map V.str)) → Q (.ref p) H'
theorem sc_spaced : FnScope ["line", "word"] ["line"] (defScope s_spaced_words) := ⟨rfl, rfl, rfl, by decide +kernel, rfl, by decide +kernel, by decide +kernel⟩
theorem ok_spaced (T : TxtT K mg L) : FnOk P w K mg base CX0 1 L.fs L.ds ["line"] spSpaced := by
  have sc := sc_spaced
  refine T.D_spaced_words.F.ok sc (fun vs H Q E h => ?_) (fun cdv A1 outer s0 H vs Q E hr h => ?_)
  · obtain ⟨_, rfl, _⟩ := h; rfl
  · obtain ⟨y, rfl, yl, y2, k⟩ := h
    refine ⟨_, (pss_one (ps_ret (pe_lc (own := [("word", 1)]) (g := gName 1) (tt := tTest (tOp rNe (tVar 1) (tC (.str (Str.ofString ""))))) (te := tVar 1) rfl sc.nd (pi_list (pe_split (pv 0) pe_str)) (blkOk_by (N := ["line", "word"]) (sc := defScope s_spaced_words) (own := [("word", 1)]) (by decide +kernel))
        (fun _ _ _ _ _ => (pg_name (i := 1) sc.nd rfl (Or.inl rfl))) (fun _ _ _ _ _ => pts_one (pt_cmpR op_ne (pv 1) pe_str (nomark _))) (fun _ _ _ _ _ => pv 1)))), ?_⟩
    refine ⟨_, rfl, ⟨_, rfl⟩, y, " ", rfl, rfl, by decide, yl, fun q hq => ⟨q, rfl, ⟨_, SqL.of upd_same⟩, fun D hD => ?_⟩⟩
    have h1 : (upd H q (.lst ((Txt.split y " ").map V.str))) q = some (.lst ((Txt.split y " ").map V.str)) := upd_same
    have s1 := Same.upd (o := .lst ((Txt.split y " ").map V.str)) hq
    have hD' : H D = none := s1.free hD
    generalize upd H q (.lst ((Txt.split y " ").map V.str)) = H1 at h1 s1 hD ⊢
    refine lcs_it [some (.str y), none] rfl walk_list (fun i H' => Same H1 H' ∧ H' D = some (.lst ((((Txt.split y " ").take i).filter fun z => !decide (V.str z = V.str "")).map V.str))) ⟨Same.upd hD, upd_same⟩ (fun i H' _ z => SqL.of (z.1 _ _ h1)) ?_ ?_
    · rintro i x _ H2 hi ⟨s2, h2⟩ ⟨rfl, hx⟩
      rw [List.getElem?_map] at hx
      obtain ⟨z, hz, rfl⟩ := Option.map_eq_some_iff.mp hx
      refine ⟨rfl, _, rfl, rfl, _, rfl, ?_⟩
      have tk : (Txt.split y " ").take (i + 1) = (Txt.split y " ").take i ++ [z] := by rw [List.take_add_one, hz]; rfl
      by_cases c : V.str z = V.str ""
      · refine ifFn c ⟨s2, ?_⟩
        rw [h2, tk, List.filter_append, List.filter_cons_of_neg (by simp [c]), List.filter_nil, List.append_nil]
      · refine ifTn c ⟨_, rfl, _, h2, ?_, fun b o e => ?_, ?_⟩
        · rw [List.length_map]
          have := List.length_filter_le (fun z : Str => !decide (V.str z = V.str "")) ((Txt.split y " ").take i)
          rw [List.length_take] at this
          omega
        · rw [upd_ne (ne_of_none e hD)]
          exact s2 _ _ e
        · rw [upd_same, tk, List.filter_append, List.filter_cons_of_pos (by simp [c]), List.filter_nil, List.map_append]
          rfl
    · rintro H2 ⟨s2, h2⟩
      have eT : (Txt.split y " ").take ((Txt.split y " ").map V.str).length = Txt.split y " " := List.take_of_length_le (by simp)
      rw [eT] at h2
      exact k D H2 hD' (fun b o z => s2 _ _ (s1 _ _ z)) h2
end
end Kx

namespace Own
open PySem PySem.Spec L2 PyProof.Rows
/-! ### first, *rest = xs, xs a list with something in it -/
/-- a list's iterator from its second item on -/
theorem walk_tail {prog : Program} {w : World} {A : Around} (hh : A.handled = none) (I ax : Addr) (hne : ax ≠ I) (items : Array Value) (h1 : 1 ≤ items.size) :
    Walks prog w A I [I, ax] [I] (items.size - 1) (fun i v => items[i + 1]? = some v) (fun i h => h.IsListIter I ax (i + 1) ∧ h.IsList ax items) where
  sub := fun b hb => by rw [List.mem_singleton.mp hb]; exact List.mem_cons_self
  frame := fun i h h' st hk => (Walks.list (prog := prog) (w := w) hh I ax hne items).frame (i + 1) h h' st hk
  item := fun i s Q E hi st hQ => (Walks.list (prog := prog) (w := w) hh I ax hne items).item (i + 1) s Q E (by omega) st hQ
  done := fun s Q E st hQ => (Walks.list (prog := prog) (w := w) hh I ax hne items).done s Q E (by rw [show items.size = items.size - 1 + 1 by omega]; exact st) hQ
  self := fun i s Q E st hQ => (Walks.list (prog := prog) (w := w) hh I ax hne items).self (i + 1) s Q E st hQ
section
variable {prog : Program} {w : World} {A : Around} {E : Value → Shared → Prop} {s : Shared}
theorem split_list {t : Addr} {x : Value} {xs : List Value} {n : Nat} {Q : List Value → Shared → Prop} (hh : A.handled = none) (ht : s.heap.get? t = some { cls := .type "list", data := .seq (x :: xs).toArray n }) (hz : xs.length + 1 ≤ sizeLine)
    (hQ : ∀ s' : Shared, (∀ c o, s.heap.get? c = some o → s'.heap.get? c = some o) → s'.gens = s.gens → s'.drawn = s.drawn → s'.os = s.os → Q [x, .ref s'.heap.objs.size] { s' with heap := s'.heap.push { cls := .type "list", data := .seq xs.toArray } }) :
    wpAny (model prog w) A (unpackItems (.ref t) 2 (some 1)) Q E s := by
  have isl : s.heap.IsList t (x :: xs).toArray := ⟨_, ht, rfl, n, rfl⟩
  have hlt : t ≠ s.heap.objs.size := Nat.ne_of_lt (Heap.lt_size ht)
  unfold unpackItems
  refine wpAny_bind ?_
  · unfold notIterableAtAll
    refine wpAny_bind (wpAny_specialOf ⟨_, ht, rfl⟩ slot_list_iter.lookup ?_)
    refine wpAny_pure ?_
    simp only [Bool.false_eq_true, if_false]
    refine wpAny_bind (wpAny_holding (wpAny_pyIter_list isl ?_))
    have W := walk_tail (prog := prog) (w := w) (A := A.in1) hh s.heap.objs.size t hlt (x :: xs).toArray (by simp)
    have st0 : (s.heap.push { cls := .type "list_iterator", data := .fields #[.ref t, .int 0 0] }).IsListIter s.heap.objs.size t 0 := ⟨_, Heap.get?_push_size _ rfl, rfl, rfl⟩
    have isl0 : (s.heap.push { cls := .type "list_iterator", data := .fields #[.ref t, .int 0 0] }).IsList t (x :: xs).toArray := ⟨_, Heap.get?_push_of_some _ ht, rfl, n, rfl⟩
    refine wpAny_bind (wpAny_holding ?_)
    show wpAny _ _ (pyNext (.ref s.heap.objs.size) >>= _) _ _ _
    refine wpAny_bind (wpAny_pyNext_list_item (s := { s with heap := s.heap.push { cls := .type "list_iterator", data := .fields #[.ref t, .int 0 0] } }) st0 isl0 (x := x) (by simp) fun h1 hit1 hs1 => ?_)
    refine wpAny_bind (wpAny_holding ?_)
    show wpAny _ _ (pure []) _ _ _
    refine wpAny_pure (wpAny_pure ?_)
    rw [if_neg (by simp)]
    have isl1 : h1.IsList t (x :: xs).toArray := isl0.extBut hs1.extBut hlt
    refine wpAny_bind (wpAny_holding (wpAny_collect_iter (T := "list_iterator") (.inr (.inr (.inl rfl))) W.toS (fun i s' st => ?_) ⟨hit1, isl1⟩ ?_ List.mem_cons_self (fun s' acc mv items => ?_) (by simp; omega)))
    · obtain ⟨⟨o, ho, hc, _⟩, _⟩ := st
      exact ⟨o, ho, hc⟩
    · intro b hb
      rcases List.mem_cons.mp hb with rfl | hb
      · obtain ⟨o, ho, _⟩ := hit1
        exact Heap.lt_size ho
      · rw [List.mem_singleton.mp hb]
        obtain ⟨o, ho, _⟩ := isl1
        exact Heap.lt_size ho
    have ea : acc.toList = xs := by
      refine List.ext_getElem? fun j => ?_
      rw [Array.getElem?_toList]
      have sz : acc.size = xs.length := by rw [items.1]; simp
      by_cases hj : j < xs.length
      · have h2 : acc[j]? = some (acc[j]'(by omega)) := Array.getElem?_eq_getElem (by omega)
        have := items.2 j _ h2
        rw [h2, ← this]
        simp
      · rw [Array.getElem?_eq_none (by omega), List.getElem?_eq_none (by omega)]
    rw [ea]
    rw [if_neg (by simp)]
    have em : xs.take (xs.length - (2 - 1 - 1)) = xs := by simp
    have ed : xs.drop (xs.length - (2 - 1 - 1)) = [] := by simp
    rw [em, ed]
    refine wpAny_bind (wpAny_newList ?_ (by omega))
    refine wpAny_pure ?_
    refine hQ s' (fun c o e => ?_) mv.gens mv.drawn mv.os
    have nc : c ≠ s.heap.objs.size := Nat.ne_of_lt (Heap.lt_size e)
    exact mv.heap c o (by simpa using nc) (hs1.extBut c o nc (Heap.get?_push_of_some _ e))
end
/-- first, *rest = a list: what is told of it -/
def gStar (t u : TG) : TG := fun v σ H Q => ∃ (a : Addr) (x : V) (xs : List V), v = .ref a ∧ H a = some (.lst (x :: xs)) ∧ ∀ l, H l = none → t x σ (upd H l (.lst xs)) fun σ1 H1 => u (.ref l) σ1 H1 Q
theorem pg_star {X : Cx} {e1 e2 : Expr} {k : Nat} {pos sp : Pos} {t u : TG} (hc : X.calm = true) (h1 : PG X e1 t) (h2 : PG X e2 u)
    (ha : assignEach [e1, .Starred e2 sp] X.env = [(false, assign e1 X.env), (true, assign e2 X.env)] := by rfl) : PG X (.Tuple [e1, .Starred e2 sp] k pos) (gStar t u) := by
  refine ⟨fun pins s σ H v uv Q I r hw => ?_⟩
  obtain ⟨a, x, xs, rfl, hH, hw⟩ := hw
  cases r
  obtain ⟨z, its, n, rv, hl, e⟩ := I.lstM hH
  cases rv with
  | cons rx rr =>
    rw [assign_Tuple]
    refine wpAny_bind (wpAny_standAt ?_)
    unfold unpack
    rw [ha]
    rw [List.length_cons] at z
    have lx := rr.length
    refine wpAny_bind (wpAny_holding (split_list (I.ok.hd hc) e (by omega) fun s' ks g1 g2 g3 => ?_))
    obtain ⟨hp', gn', dr', tk', os'⟩ := s'
    cases g1
    cases g2
    cases g3
    have I1 : Inv X pins σ H { s with heap := hp', toks := tk' } := I.kept ks
    have I2 := I1.lnew (t' := tk') (ys := xs) rr (by omega)
    refine assignInOrder_cons (thn (h1.run pins _ σ _ _ _ _ I2 rx (hw _ I1.fresh)) fun _ s1 ⟨σ1, H1, I3, q1⟩ => ?_)
    refine assignInOrder_cons (thn (h2.run pins _ σ1 _ _ _ _ I3 ?_ q1) fun _ s2 ⟨σ2, H2, I4, q2⟩ => ?_)
    · rfl
    · exact assignInOrder_nil ⟨σ2, H2, I4, q2⟩
end Own

namespace Kx
open PySem L2 Own
abbrev s_read_way : Stmt := top 24
structure TxtRw (K : PySem.W.Frag) (mg : Str → Option Value) (L : TAd) (f : Addr) (d : FuncData) : Prop where
  t : TxtT K mg L
  D_read_way : DefT K mg "read_way" "read_way" s_read_way ["word", "states"] f d
section
variable {P : Program} {w : World} {K : PySem.W.Frag} {mg : Str → Option Value} {base : Heap} {L : TAd} {f : Addr} {d : FuncData}
/-- a number, written -/
abbrev numT (i : Nat) : Str := Str.ofString (toString (i : Int))
/-- the dict of the states' numbers -/
def numK (m : Nat) : List (Key × V) := (List.range m).map fun i : Nat => ((Sum.inr (numT i) : Key), V.int i)
theorem num_inj {i j : Nat} (h : numT i = numT j) : i = j := by
  have e := congrArg TL.tl h
  rw [TL.tl_num, TL.tl_num] at e
  exact TL.numL_inj e
theorem num_of (x : Str) : ∀ l : List Nat, (∃ i ∈ l, numT i = x ∧ valV (l.map fun i : Nat => ((Sum.inr (numT i) : Key), V.int i)) (Sum.inr x) = some (.int (i : Nat))) ∨ valV (l.map fun i : Nat => ((Sum.inr (numT i) : Key), V.int i)) (Sum.inr x) = none ∧ ∀ i ∈ l, numT i ≠ x
  | [] => .inr ⟨rfl, fun _ z => absurd z List.not_mem_nil⟩
  | a :: r => by
    rw [List.map_cons]
    by_cases e : numT a = x
    · exact .inl ⟨a, List.mem_cons_self, e, by rw [valV_pos (by rw [e])]⟩
    · rw [valV_neg (fun z => e (Sum.inr.inj z))]
      rcases num_of x r with ⟨i, h1, h2, h3⟩ | ⟨h1, h2⟩
      · exact .inl ⟨i, List.mem_cons_of_mem _ h1, h2, h3⟩
      · refine .inr ⟨h1, fun i hi => ?_⟩
        rcases List.mem_cons.mp hi with rfl | hi
        · exact e
        · exact h2 i hi
/-- the state that a word tells, None if it is no number of one -/
def numAt (m : Nat) (x : Str) : Option V := valV (numK m) (Sum.inr x)
theorem numAt_is (m : Nat) (x : Str) : (∃ i, i < m ∧ numT i = x ∧ numAt m x = some (.int (i : Nat))) ∨ numAt m x = none ∧ ∀ i, i < m → numT i ≠ x := by
  rcases num_of x (List.range m) with ⟨i, h1, h2, h3⟩ | ⟨h1, h2⟩
  · exact .inl ⟨i, List.mem_range.mp h1, h2, h3⟩
  · exact .inr ⟨h1, fun i hi => h2 i (List.mem_range.mpr hi)⟩
/-- read_way(word, states) -/
def spReadWay : Sp := fun vs H Q _ => ∃ (y x : Str) (xs : List Str) (d : Addr) (m : Nat), vs = [.str y, .ref d] ∧ H d = some (.dK (numK m)) ∧ y.cps.size + 2 ≤ sizeLine ∧ Txt.split y "+" = x :: xs ∧ xs.length + 1 < scanBound ∧ (∀ z ∈ xs, z.cps.size ≤ sizeLine) ∧
  (∀ H', Same H H' → (numAt m x = none ∨ keysOk xs = false) → Q .non H') ∧
  ∀ (i : Nat) (p g : Addr) H', Same H H' → H p = none → H g = none → i < m → numT i = x → keysOk xs = true → H' p = some (.tup [.int (i : Nat), .ref g]) → H' g = some (.lst (xs.map V.str)) → Q (.ref p) H'
theorem sc_read_way : FnScope ["word", "states", "number", "given", "to"] ["word", "states"] (defScope s_read_way) := ⟨rfl, rfl, rfl, by decide +kernel, rfl, by decide +kernel, by decide +kernel⟩
theorem ok_read_way (T : TxtRw K mg L f d) : FnOk P w K mg base CX0 3 f d ["word", "states"] spReadWay := by
  have sc := sc_read_way
  have G_are_keys : FnOk P w K mg base CX0 2 L.fa L.da ["words"] spAreKeys := ok_are_keys T.t
  refine T.D_read_way.F.ok sc (fun vs H Q E h => ?_) (fun cdv A1 outer s0 H vs Q E hr h => ?_)
  · obtain ⟨_, _, _, _, _, rfl, _⟩ := h; rfl
  · obtain ⟨y, x, xs, d, m, rfl, hd, yl, sp, x1, x2, bad, good⟩ := h
    have hu := hu_of hr
    refine ⟨_, (pss_cons (ps_asg (pe_split (pv 0) pe_str) (pg_star rfl (pg_name (i := 2) sc.nd rfl (Or.inl rfl)) (pg_name (i := 3) sc.nd rfl (Or.inl rfl))))
      (pss_cons (ps_set (i := 4) sc.nd rfl (Or.inl rfl) (pe_dget1 hu (pv 1) (pv 2) ⟨by rfl, by rfl, by rfl, by rfl⟩))
      (pss_cons (ps_if (PW.pt (pw_or (pt_cmpR op_isN (pv 4) pe_non (nomark _)) (pw_or1 (pt_not (pt_val (pe_call G_are_keys (hr.mono (by decide)) rfl T.t.D_are_keys.g T.t.D_are_keys.F.kp T.t.D_are_keys.b .nil pass0 (pa_cons (pv 3) pa_nil))))))) (pss_one (ps_ret pe_non)) pss_nil)
      (pss_one (ps_ret (pe_tup (pa_cons (pv 4) (pa_cons (pv 3) pa_nil)))))))), ?_⟩
    refine ⟨_, rfl, ⟨_, rfl⟩, y, "+", rfl, rfl, by decide, yl, fun q hq => ?_⟩
    rw [sp]
    refine ⟨q, .str x, xs.map V.str, rfl, upd_same, fun l hl => ?_⟩
    have s1 : Same H (upd (upd H q (.lst ((x :: xs).map V.str))) l (.lst (xs.map V.str))) := fun b o z => Same.upd hl _ _ (Same.upd hq _ _ z)
    have hl1 : (upd (upd H q (.lst ((x :: xs).map V.str))) l (.lst (xs.map V.str))) l = some (.lst (xs.map V.str)) := upd_same
    have nl : H l = none := (Same.upd hq).free hl
    generalize upd (upd H q (.lst ((x :: xs).map V.str))) l (.lst (xs.map V.str)) = H1 at s1 hl1 ⊢
    have dg : DGet H1 d (.str x) (numAt m x) := DGet.k (k := Sum.inr x) (s1 _ _ hd)
    refine ⟨_, rfl, d, rfl, .inl ⟨_, .inl (s1 _ _ hd)⟩, _, rfl, numAt m x, dg, ?_⟩
    rcases numAt_is m x with ⟨i, im, ei, en⟩ | ⟨en, none⟩
    · rw [en]
      refine ⟨_, rfl, rfl, _, rfl, iteF ?_⟩
      refine ⟨_, rfl, l, xs, rfl, hl1, x1, x2, fun H2 s2 => ?_⟩
      refine ⟨_, rfl, ?_⟩
      cases ek : keysOk xs with
      | false =>
        exact bad H2 (fun b o z => s2 _ _ (s1 _ _ z)) (.inr ek)
      | true =>
        refine ⟨_, rfl, _, rfl, by show 2 ≤ sizeLine; decide, fun p hp => ?_⟩
        exact good i p l _ (fun b o z => Same.upd hp _ _ (s2 _ _ (s1 _ _ z))) (s1.free (s2.free hp)) nl im ei ek upd_same (Same.upd hp _ _ (s2 _ _ hl1))
    · rw [en]
      refine ⟨_, rfl, rfl, _, rfl, iteT ?_⟩
      exact bad H1 s1 (.inl en)
end
end Kx

namespace Kx
open PySem L2 Own
section
variable {P : Program} {w : World} {K : PySem.W.Frag} {mg : Str → Option Value} {base : Heap} {L : TAd}
theorem joinL_len (s : List Nat) : ∀ ls : List (List Nat), (TL.joinL s ls).length ≤ (ls.map (·.length)).sum + ls.length * s.length
  | [] => Nat.zero_le _
  | [a] => by simp [TL.joinL]
  | a :: b :: r => by
    have ih := joinL_len s (b :: r)
    show (a ++ (s ++ TL.joinL s (b :: r))).length ≤ _
    rw [List.length_append, List.length_append, List.map_cons, List.sum_cons, List.length_cons, Nat.succ_mul]
    omega
theorem join_len (a : Str) (ys : List Str) : (Txt.join a ys).length ≤ (ys.map (·.length)).sum + ys.length * a.length := by
  have e := TL.tl_join a ys
  rw [← TL.join_eq] at e
  have h := joinL_len (TL.tl a) (ys.map TL.tl)
  rw [← e, List.map_map, List.length_map] at h
  have e1 : (TL.tl (Txt.join a ys)).length = (Txt.join a ys).length := Array.length_toList
  have e2 : (TL.tl a).length = a.length := Array.length_toList
  have e3 : (ys.map ((fun x : List Nat => x.length) ∘ TL.tl)) = ys.map (·.length) := List.map_congr_left fun x _ => Array.length_toList
  rw [e1, e2, e3] at h
  exact h
theorem sum_le (m : Nat) : ∀ l : List Nat, (∀ x ∈ l, x ≤ m) → l.sum ≤ m * l.length
  | [], _ => Nat.zero_le _
  | a :: r, h => by
    have := sum_le m r fun x hx => h x (List.mem_cons_of_mem _ hx)
    have := h a List.mem_cons_self
    rw [List.sum_cons, List.length_cons, Nat.mul_succ]
    omega
theorem num_short : ∀ i, i < 16 → (numT i).length ≤ 2 := by decide +kernel
/-- a way, written -/
def wayTx (w : Way) : Str := Txt.join "+" (Str.ofString (toString w.1) :: w.2)
/-- a state's line -/
def lineTx (q : List Way) (e : List Str) : Str := Txt.join " " (q.map wayTx ++ (("|" : Str) :: e))
structure Shrt (q : List Way) (e : List Str) : Prop where
  four : q.length ≤ 4
  num : ∀ w ∈ q, 0 ≤ w.1 ∧ w.1 < 16
  two : ∀ w ∈ q, w.2.length ≤ 2
  keys : ∀ w ∈ q, ∀ y ∈ w.2, y.length ≤ 12
  e2 : e.length ≤ 2
  ek : ∀ y ∈ e, y.length ≤ 12
theorem num_int {i : Int} (h0 : 0 ≤ i) (h1 : i < 16) : (Str.ofString (toString i)).length ≤ 2 := by
  obtain ⟨n, rfl⟩ := Int.eq_ofNat_of_zero_le h0
  exact num_short n (by omega)
theorem way_sum {q : List Way} {e : List Str} (S : Shrt q e) {w : Way} (hw : w ∈ q) : ((Str.ofString (toString w.1) :: w.2).map (·.length)).sum + (Str.ofString (toString w.1) :: w.2).length * ("+" : Str).length ≤ 100 := by
  have h1 := num_int (S.num w hw).1 (S.num w hw).2
  have h2 := S.two w hw
  have h3 := sum_le 12 (w.2.map (·.length)) fun x hx => by
    obtain ⟨y, hy, rfl⟩ := List.mem_map.mp hx
    exact S.keys w hw y hy
  rw [List.length_map] at h3
  have e1 : ("+" : Str).length = 1 := rfl
  rw [List.map_cons, List.sum_cons, List.length_cons, e1]
  omega
theorem way_len {q : List Way} {e : List Str} (S : Shrt q e) {w : Way} (hw : w ∈ q) : (wayTx w).length ≤ 100 := Nat.le_trans (join_len _ _) (way_sum S hw)
theorem line_sum {q : List Way} {e : List Str} (S : Shrt q e) : ((q.map wayTx ++ (("|" : Str) :: e)).map (·.length)).sum + (q.map wayTx ++ (("|" : Str) :: e)).length * (" " : Str).length ≤ 1000 := by
  have h3 := sum_le 12 (e.map (·.length)) fun x hx => by
    obtain ⟨y, hy, rfl⟩ := List.mem_map.mp hx
    exact S.ek y hy
  have h4 := sum_le 100 ((q.map wayTx).map (·.length)) fun x hx => by
    obtain ⟨y, hy, rfl⟩ := List.mem_map.mp hx
    obtain ⟨w, hw, rfl⟩ := List.mem_map.mp hy
    exact way_len S hw
  rw [List.length_map] at h3
  rw [List.length_map, List.length_map] at h4
  have e1 : (" " : Str).length = 1 := rfl
  have e2 : ("|" : Str).length = 1 := rfl
  have := S.four
  have := S.e2
  rw [List.map_append, List.sum_append, List.map_cons, List.sum_cons, List.length_append, List.length_map, List.length_cons, e1, e2]
  omega
abbrev Nline : List Str := ["ways", "end", "words", "to", "given"]
def spLine : Sp := fun vs H Q _ => ∃ (a b : Addr) (wv : List V) (q : List Way) (e : List Str), vs = [.ref a, .ref b] ∧ H a = some (.tup wv) ∧ Paired (WayT H) wv q ∧ H b = some (.tup (e.map V.str)) ∧ Shrt q e ∧ ∀ H', Same H H' → Q (.str (lineTx q e)) H'
theorem sc_line : FnScope Nline ["ways", "end"] (defScope s_state_line) := ⟨rfl, rfl, rfl, by decide +kernel, rfl, by decide +kernel, by decide +kernel⟩
def rJoin (K : PySem.W.Frag) : V → List V → Hp → VK → Prop := fun x xs H Q => ∃ a p, ∃ ys : List Str, x = .str a ∧ xs = [.ref p] ∧ (SqL K H p (ys.map V.str) ∨ SqT K H p (ys.map V.str)) ∧ (ys.map (·.length)).sum + ys.length * a.length ≤ 16777216 ∧ Q (.str (Txt.join a ys)) H
def rStrI : List V → Hp → VK → Prop := fun xs H Q => ∃ i : Int, xs = [.int i] ∧ i.natAbs.log2 < 1920 ∧ Q (.str (toString i)) H
theorem ok_line (T : TxtT K mg L) : FnOk P w K mg base CX0 1 L.fl L.dl ["ways", "end"] spLine := by
  have sc := sc_line
  refine T.D_state_line.F.ok sc (fun vs H Q E h => ?_) (fun cdv A1 outer s0 H vs Q E hr h => ?_)
  · obtain ⟨_, _, _, _, _, rfl, _⟩ := h; rfl
  · obtain ⟨a, b, wv, q, e, rfl, ha, pq, hb, S, k⟩ := h
    refine ⟨_, (pss_cons (ps_setLc (i := 2) (own := [("to", 3), ("given", 4)]) (g := gTup K 2 (gCons (gName 3) (gCons (gName 4) gNil))) (tt := tYes) (te := tM1 (rJoin K) (tC (.str "+")) (tLst (tCons (tCB rStrI (tCons (tVar 3) tNil)) (StX.tStar K (tVar 4) tNil)))) rfl sc.nd rfl rfl (sw_true rfl rfl rfl (by decide +kernel)) (pi_tup (pv 0)) (blkOk_by (N := Nline) (sc := defScope s_state_line) (own := [("to", 3), ("given", 4)]) (by decide +kernel))
        (fun _ _ _ _ _ => (pg_tup rfl (pgs_cons (pg_name (i := 3) sc.nd rfl (Or.inl rfl)) (pgs_cons (pg_name (i := 4) sc.nd rfl (Or.inl rfl)) pgs_nil)))) (fun _ _ _ _ _ => pts_nil)
        (fun _ _ _ _ _ => pe_join pe_str (pe_lst (pa_cons (pe_callTy call_str_int (by rfl) T.n_str (by decide +kernel) (pa_cons (pv 3) pa_nil)) (StX.pa_star (pv 4) pa_nil)))))
      (pss_one (ps_ret (pe_join pe_str (pe_lst (StX.pa_star (pv 2) (pa_cons pe_str (StX.pa_star (pv 1) pa_nil)))))))), ?_⟩
    have lwv : wv.length = q.length := Paired.length pq
    refine ⟨_, rfl, a, rfl, ⟨_, SqT.of ha⟩, fun D hD => ?_⟩
    refine lcs_it [some (.ref a), some (.ref b), none, none, none] rfl walk_tup (fun i H' => Same H H' ∧ H' D = some (.lst (((q.take i).map wayTx).map V.str))) ⟨Same.upd hD, upd_same⟩ (fun i H' _ z => SqT.of (z.1 _ _ ha)) ?_ ?_
    · rintro i x _ H2 hi ⟨s2, h2⟩ ⟨rfl, hx⟩
      obtain ⟨w, hw, c, kv0, rfl, hc, kv, rfl, hkv⟩ := pat pq hx
      have wm := List.mem_of_getElem? hw
      have wn := S.num w wm
      have w2 := S.two w wm
      have lg : w.1.natAbs.log2 < 1920 := Nat.lt_of_le_of_lt (Nat.log2_le_self _) (by omega)
      refine ⟨c, _, rfl, SqT.of (s2 _ _ hc), rfl, _, _, rfl, _, _, rfl, rfl, rfl, ?_⟩
      refine ⟨⟨_, rfl⟩, _, rfl, w.1, rfl, lg, _, rfl, kv, _, rfl, .inl (SqT.of (s2 _ _ hkv)), ?_, fun p hp => ?_⟩
      · show (w.2.map V.str ++ []).length + 1 ≤ sizeLine
        rw [List.append_nil, List.length_map, sizeLine_eq]
        omega
      have s3 := Same.upd (o := .lst (V.str (Str.ofString (toString w.1)) :: (w.2.map V.str ++ []))) hp
      have h3 : (upd H2 p (.lst (V.str (Str.ofString (toString w.1)) :: (w.2.map V.str ++ [])))) p = some (.lst ((Str.ofString (toString w.1) :: w.2).map V.str)) := by
        rw [upd_same, List.append_nil]
        rfl
      refine ⟨"+", p, Str.ofString (toString w.1) :: w.2, rfl, rfl, .inl (SqL.of h3), Nat.le_trans (way_sum S wm) (by decide), _, s3 _ _ h2, ?_, fun b' o z => ?_, ?_⟩
      · rw [List.length_map, List.length_map, List.length_take, sizeLine_eq]
        have := S.four
        omega
      · rw [upd_ne (ne_of_none z hD)]
        exact s3 _ _ (s2 _ _ z)
      · rw [upd_same, List.take_add_one, hw, List.map_append, List.map_append]
        rfl
    · rintro H2 ⟨s2, h2⟩
      rw [lwv, List.take_length] at h2
      refine ⟨⟨_, rfl⟩, _, rfl, D, _, rfl, .inr (SqL.of h2), _, rfl, b, _, rfl, .inl (SqT.of (s2 _ _ hb)), ?_, fun p hp => ?_⟩
      · have := S.four
        have := S.e2
        show ((q.map wayTx).map V.str ++ (V.str "|" :: (e.map V.str ++ []))).length ≤ sizeLine
        rw [List.append_nil, List.length_append, List.length_cons, List.length_map, List.length_map, List.length_map, sizeLine_eq]
        omega
      have h3 : (upd H2 p (.lst ((q.map wayTx).map V.str ++ (V.str "|" :: (e.map V.str ++ []))))) p = some (.lst ((q.map wayTx ++ (("|" : Str) :: e)).map V.str)) := by
        rw [upd_same, List.append_nil, List.map_append]
        rfl
      refine ⟨" ", p, q.map wayTx ++ (("|" : Str) :: e), rfl, rfl, .inl (SqL.of h3), Nat.le_trans (line_sum S) (by decide), ?_⟩
      exact k _ fun b' o z => Same.upd hp _ _ (s2 _ _ z)
end
end Kx

namespace Kx
open PySem L2 Own
abbrev s_read_signs : Stmt := top 22
structure TxtSi (K : PySem.W.Frag) (mg : Str → Option Value) (L : TAd) (fa fr : Addr) (da dr : FuncData) : Prop where
  t : TxtT K mg L
  D_are_signs : DefT K mg "are_signs" "are_signs" s_are_signs ["word"] fa da
  D_read_signs : DefT K mg "read_signs" "read_signs" s_read_signs ["line"] fr dr
  g_MOST_SIGNS : ∃ t, mg "MOST_SIGNS" = some (.int 4 t)
  g_LETTERS : ∃ t, mg "LETTERS" = some (.str "abcdefghijklmnopqrstuvwxyz" t)
section
variable {P : Program} {w : World} {K : PySem.W.Frag} {mg : Str → Option Value} {base : Heap} {L : TAd} {fa fr : Addr} {da dr : FuncData}
abbrev aLet : Str := "abcdefghijklmnopqrstuvwxyz"
/-- a text that can be the signs of a machine -/
def signsOk (y : Str) : Bool := !decide (y.cps.size < 1) && !decide (4 < y.cps.size) && decide (letters y).Nodup && y.cps.toList.all fun c => decide (c ∈ aLet.cps.toList)
def spAreSigns : Sp := fun vs H Q _ => ∃ y : Str, vs = [.str y] ∧ y.cps.size ≤ sizeLine ∧ ∀ H', Same H H' → Q (.bl (signsOk y)) H'
theorem sc_are_signs : FnScope ["word", "letter"] ["word"] (defScope s_are_signs) := ⟨rfl, rfl, rfl, by decide +kernel, rfl, by decide +kernel, by decide +kernel⟩
theorem letters_len (y : Str) : (letters y).length = y.cps.size := by unfold letters; simp
theorem ok_are_signs (T : TxtSi K mg L fa fr da dr) : FnOk P w K mg base CX0 1 fa da ["word"] spAreSigns := by
  have sc := sc_are_signs
  obtain ⟨t1, g1⟩ := T.g_MOST_SIGNS
  obtain ⟨t2, g2⟩ := T.g_LETTERS
  refine T.D_are_signs.F.ok sc (fun vs H Q E h => ?_) (fun cdv A1 outer s0 H vs Q E hr h => ?_)
  · obtain ⟨_, rfl, _⟩ := h; rfl
  · obtain ⟨y, rfl, yl, k⟩ := h
    refine ⟨_, (pss_cons (ps_if (PW.pt (pw_or (pt_cmpR op_lt (pe_callB call_len (by rfl) T.t.n_len (by decide +kernel) (pa_cons (pv 0) pa_nil)) pe_int (nomark _)) (pw_or1 (pt_cmpR op_gt (pe_callB call_len (by rfl) T.t.n_len (by decide +kernel) (pa_cons (pv 0) pa_nil)) (pe_glob (v := .int 4) rfl g1 ⟨_, rfl⟩) (nomark _))))) (pss_one (ps_ret pe_bl)) pss_nil)
      (pss_one (ps_ret (pe_and (pe_cmpR op_eq (pe_callB cr_lenT (by rfl) T.t.n_len (by decide +kernel) (pa_cons (pe_callTy (cr_setT rfl) (by rfl) T.t.n_set (by decide +kernel) (pa_cons (pv 0) pa_nil)) pa_nil)) (pe_callB call_len (by rfl) T.t.n_len (by decide +kernel) (pa_cons (pv 0) pa_nil)) (nomark _))
      (pe_one (pe_callB (cr_all rfl) (by rfl) T.t.n_all (by decide +kernel) (pa_cons (pe_lc (own := [("letter", 1)]) (g := gName 1) (tt := tYes) (te := tOp rInSign (tVar 1) (tC (.str aLet))) rfl sc.nd (pi_str (pv 0)) (blkOk_by (N := ["word", "letter"]) (sc := defScope s_are_signs) (own := [("letter", 1)]) (by decide +kernel))
        (fun _ _ _ _ _ => (pg_name (i := 1) sc.nd rfl (Or.inl rfl))) (fun _ _ _ _ _ => pts_nil) (fun _ _ _ _ _ => pe_cmpR op_in_sign (pv 1) (pe_glob (v := .str aLet) rfl g2 ⟨_, rfl⟩) (by rfl))) pa_nil))))))), ?_⟩
    refine ⟨_, rfl, .str y, y.cps.size, rfl, ⟨yl, rfl⟩, _, _, rfl, rfl, _, rfl, ?_⟩
    by_cases c1 : y.cps.size < 1
    · rw [decide_eq_true (by omega : (y.cps.size : Int) < 1)]
      refine iteT ?_
      have e : signsOk y = false := by unfold signsOk; rw [decide_eq_true c1]; rfl
      rw [e] at k
      exact k H (Same.refl _)
    rw [decide_eq_false (by omega : ¬ (y.cps.size : Int) < 1)]
    refine iteF ?_
    refine ⟨_, rfl, .str y, y.cps.size, rfl, ⟨yl, rfl⟩, _, _, rfl, rfl, _, rfl, ?_⟩
    by_cases c2 : 4 < y.cps.size
    · rw [decide_eq_true (by omega : (4 : Int) < (y.cps.size : Int))]
      refine iteT ?_
      have e : signsOk y = false := by unfold signsOk; rw [decide_eq_true c2]; simp
      rw [e] at k
      exact k H (Same.refl _)
    rw [decide_eq_false (by omega : ¬ (4 : Int) < (y.cps.size : Int))]
    refine iteF ?_
    have ll := letters_len y
    refine ⟨_, rfl, .str y, letters y, rfl, .text y, by have e : scanBound = 4096 := rfl; omega, fun p4 l4 hp4 nd4 hm4 hl4 => ?_⟩
    refine ⟨p4, l4, rfl, upd_same, by have e : scanBound = 4096 := rfl; omega, ?_⟩
    have h4 := Same.upd (o := SetT P w p4 l4) hp4
    refine ⟨_, rfl, .str y, y.cps.size, rfl, ⟨yl, rfl⟩, rfl, ?_⟩
    have ed : decide (V.int (l4.length : Nat) = V.int (y.cps.size : Nat)) = decide (letters y).Nodup := by
      rw [decide_eq_decide, ← ll]
      exact ⟨fun z => (nodup_len nd4 hm4).mp (Int.ofNat.inj (V.int.inj z)), fun z => by rw [(nodup_len nd4 hm4).mpr z]⟩
    rw [ed]
    refine ⟨_, rfl, ?_⟩
    by_cases c : (letters y).Nodup
    · rw [decide_eq_true c]
      refine iteT ?_
      refine ⟨_, rfl, y, rfl, fun D hD => ?_⟩
      have nD : H D = none := h4.free hD
      refine lcs_it [some (.str y), none] rfl walk_str (fun i H' => Same H H' ∧ H' D = some (.lst (((y.cps.toList.take i).map fun c => decide (c ∈ aLet.cps.toList)).map V.bl))) ⟨fun b o z => Same.upd hD _ _ (h4 _ _ z), upd_same⟩ (fun _ _ _ _ => trivial) ?_ ?_
      · rintro i x _ H2 hi ⟨s2, h2⟩ ⟨rfl, c, hc, rfl⟩
        have hct : y.cps.toList[i]? = some c := by rw [Array.getElem?_toList]; exact hc
        refine ⟨rfl, _, rfl, c, aLet, rfl, rfl, _, h2, ?_, fun b o z => ?_, ?_⟩
        · rw [List.length_map, List.length_map, List.length_take, Array.length_toList, sizeLine_eq]
          omega
        · rw [upd_ne (ne_of_none z nD)]
          exact s2 _ _ z
        · rw [upd_same, List.take_add_one, hct, List.map_append, List.map_append]
          rfl
      · rintro H2 ⟨s2, h2⟩
        have eT : y.cps.toList.take y.cps.size = y.cps.toList := List.take_of_length_le (by simp)
        rw [eT] at h2
        refine ⟨D, _, rfl, SqL.of h2, ?_⟩
        have e : signsOk y = (y.cps.toList.map fun c => decide (c ∈ aLet.cps.toList)).all id := by
          unfold signsOk
          rw [decide_eq_false c1, decide_eq_false c2, decide_eq_true c, List.all_map]
          rfl
        rw [← e]
        exact k H2 s2
    · rw [decide_eq_false c]
      refine iteF ?_
      have e : signsOk y = false := by unfold signsOk; rw [decide_eq_false c]; simp
      rw [e] at k
      exact k _ h4
/-- the signs that the first line tells -/
def signsOf (y : Str) : Option Str := match lineW y with
  | [a, z] => if V.str a = V.str "signs" ∧ signsOk z = true then some z else none
  | _ => none
def spReadSigns : Sp := fun vs H Q _ => ∃ y : Str, vs = [.str y] ∧ y.cps.size + 2 ≤ sizeLine ∧ (Txt.split y " ").length < sizeLine ∧ (∀ z ∈ lineW y, z.cps.size ≤ sizeLine) ∧ ∀ H', Same H H' → Q (match signsOf y with | some z => .str z | none => .non) H'
theorem sc_read_signs : FnScope ["line", "words"] ["line"] (defScope s_read_signs) := ⟨rfl, rfl, rfl, by decide +kernel, rfl, by decide +kernel, by decide +kernel⟩
theorem ok_read_signs (T : TxtSi K mg L fa fr da dr) : FnOk P w K mg base CX0 2 fr dr ["line"] spReadSigns := by
  have sc := sc_read_signs
  have G_spaced : FnOk P w K mg base CX0 1 L.fs L.ds ["line"] spSpaced := ok_spaced T.t
  have G_signs : FnOk P w K mg base CX0 1 fa da ["word"] spAreSigns := ok_are_signs T
  refine T.D_read_signs.F.ok sc (fun vs H Q E h => ?_) (fun cdv A1 outer s0 H vs Q E hr h => ?_)
  · obtain ⟨_, rfl, _⟩ := h; rfl
  · obtain ⟨y, rfl, yl, y2, y3, k⟩ := h
    refine ⟨_, (pss_cons (ps_set (i := 1) sc.nd rfl (Or.inl rfl) (pe_call G_spaced (hr.mono (by decide)) rfl T.t.D_spaced_words.g T.t.D_spaced_words.F.kp T.t.D_spaced_words.b .nil pass0 (pa_cons (pv 0) pa_nil)))
      (pss_cons (ps_if (PW.pt (pw_or (pt_cmpR op_ne (pe_callB call_len (by rfl) T.t.n_len (by decide +kernel) (pa_cons (pv 1) pa_nil)) pe_int (nomark _)) (pw_or (pt_cmpR op_ne (pe_ix ix_list (pv 1) pe_int (fun _ _ => rfl)) pe_str (nomark _))
        (pw_or1 (pt_not (pt_val (pe_call G_signs (hr.mono (by decide)) rfl T.D_are_signs.g T.D_are_signs.F.kp T.D_are_signs.b .nil pass0 (pa_cons (pe_ix ix_list (pv 1) pe_int (fun _ _ => rfl)) pa_nil)))))))) (pss_one (ps_ret pe_non)) pss_nil)
      (pss_one (ps_ret (pe_ix ix_list (pv 1) pe_int (fun _ _ => rfl)))))), ?_⟩
    refine ⟨_, rfl, y, rfl, yl, y2, fun p H1 hp s1 h1 => ?_⟩
    generalize hW : lineW y = W at h1 y3
    have tell : ∀ (o : Option Str), signsOf y = o → ∀ H', Same H H' → Q (match o with | some z => .str z | none => .non) H' := fun o e H' s => by
      rw [← e]
      exact k H' s
    refine ⟨_, rfl, .ref p, W.length, rfl, .inl ⟨_, SqL.of h1, by rw [List.length_map]⟩, rfl, _, rfl, ?_⟩
    by_cases c2 : W.length = 2
    · obtain ⟨a, z, rfl⟩ : ∃ a z, W = [a, z] := by
        match W, c2 with
        | [a, z], _ => exact ⟨a, z, rfl⟩
      refine iteF ?_
      have i0 : atI ([V.str a, V.str z] : List V) 0 = some (.str a) := atI_nat (j := 0) rfl
      have i1 : atI ([V.str a, V.str z] : List V) 1 = some (.str z) := atI_nat (j := 1) rfl
      have es : signsOf y = if V.str a = V.str "signs" ∧ signsOk z = true then some z else none := by unfold signsOf; rw [hW]
      refine ⟨_, rfl, p, _, 0, _, rfl, rfl, SqL.of h1, i0, rfl, _, rfl, ?_⟩
      by_cases c3 : V.str a = V.str "signs"
      · refine ifFn c3 ?_
        refine ⟨_, rfl, p, _, 1, _, rfl, rfl, SqL.of h1, i1, z, rfl, y3 z (by simp), fun H2 s2 => ?_⟩
        refine ⟨_, rfl, ?_⟩
        have s2' : Same H H2 := fun b o e => s2 _ _ (s1 _ _ e)
        cases c4 : signsOk z with
        | false =>
          exact tell none (by rw [es, if_neg (fun e => by rw [c4] at e; cases e.2)]) H2 s2'
        | true =>
          refine ⟨_, rfl, p, _, 1, _, rfl, rfl, SqL.of (s2 _ _ h1), i1, ?_⟩
          exact tell (some z) (by rw [es, if_pos ⟨c3, c4⟩]) H2 s2'
      · refine ifTn c3 ?_
        exact tell none (by rw [es, if_neg (fun e => c3 e.1)]) H1 s1
    · refine ifTn (fun z => c2 (Int.ofNat.inj (V.int.inj z))) ?_
      refine tell none ?_ H1 s1
      unfold signsOf
      rw [hW]
      match W, c2 with
      | [], _ => rfl
      | [_], _ => rfl
      | [_, _], c2 => exact absurd rfl c2
      | _ :: _ :: _ :: _, _ => rfl
end
end Kx

namespace Kx
open PySem L2 Own
/-- rows of lists, as the law draws them -/
def KeyE (H : Hp) (v : V) (ks : List Str) : Prop := ∃ a, v = .ref a ∧ H a = some (.lst (ks.map V.str))
def WayE (H : Hp) (v : V) (w : Way) : Prop := ∃ a kv, v = .ref a ∧ H a = some (.tup [.int w.1, .ref kv]) ∧ H kv = some (.lst (w.2.map V.str))
def RowE (H : Hp) (v : V) (r : List Way) : Prop := ∃ a vs, v = .ref a ∧ H a = some (.lst vs) ∧ Paired (WayE H) vs r
theorem KeyE.keep {H H' : Hp} (s : Same H H') {v : V} {ks : List Str} (h : KeyE H v ks) : KeyE H' v ks := by
  obtain ⟨a, e, h⟩ := h
  exact ⟨a, e, s _ _ h⟩
theorem WayE.keep {H H' : Hp} (s : Same H H') {v : V} {r : Way} (h : WayE H v r) : WayE H' v r := by
  obtain ⟨a, kv, e, h, k⟩ := h
  exact ⟨a, kv, e, s _ _ h, s _ _ k⟩
theorem RowE.keep {H H' : Hp} (s : Same H H') {v : V} {r : List Way} (h : RowE H v r) : RowE H' v r := by
  obtain ⟨a, vs, e, h, k⟩ := h
  exact ⟨a, vs, e, s _ _ h, L2.Paired.mapP k fun _ _ z => z.keep s⟩
theorem toRow {K : PySem.W.Frag} {H : Hp} {v : V} {r : List Way} (h : RowE H v r) : RowL K H v r := by
  obtain ⟨a, vs, e, h, k⟩ := h
  exact ⟨a, vs, e, h, L2.Paired.mapP k fun _ _ ⟨b, kv, e1, e2, e3⟩ => ⟨b, .ref kv, e1, e2, .list (SqL.of e3)⟩⟩
theorem toTexts {K : PySem.W.Frag} {H : Hp} {v : V} {ks : List Str} (h : KeyE H v ks) : Texts K H v ks := by
  obtain ⟨a, rfl, h⟩ := h
  exact .list (SqL.of h)
/-- list(x), by values -/
def rListOf (K : PySem.W.Frag) : List V → Hp → VK → Prop := fun xs H Q => ∃ p ys, xs = [V.ref p] ∧ (SqL K H p ys ∨ SqT K H p ys) ∧ ∀ l, H l = none → Q (.ref l) (upd H l (.lst ys))
end Kx

namespace Kx
open PySem L2 Own
abbrev s_read_state : Stmt := top 23
structure TxtRs (K : PySem.W.Frag) (mg : Str → Option Value) (L : TAd) (fw fr : Addr) (dw dr : FuncData) : Prop where
  w : TxtRw K mg L fw dw
  D_read_state : DefT K mg "read_state" "read_state" s_read_state ["line", "many", "states"] fr dr
/-- the word tells the state i of m and these keys -/
def TellW (m : Nat) (z : Str) (i : Nat) (xs : List Str) : Prop := Txt.split z "+" = numT i :: xs ∧ i < m ∧ keysOk xs = true
/-- a word that can be asked -/
def AskW (z : Str) : Prop := z.cps.size + 2 ≤ sizeLine ∧ ∃ x xs, Txt.split z "+" = x :: xs ∧ xs.length + 1 < scanBound ∧ ∀ u ∈ xs, u.cps.size ≤ sizeLine
/-- what read_way told of a word, beside the list at D -/
def RdW (D : Addr) (m : Nat) (H0 H : Hp) (v : V) (z : Str) : Prop := (v = .non ∧ ¬ ∃ i xs, TellW m z i xs) ∨ ∃ (i : Nat) (xs : List Str) (a kv : Addr), TellW m z i xs ∧ v = .ref a ∧ a ≠ D ∧ kv ≠ D ∧ H0 a = none ∧ H0 kv = none ∧ H a = some (.tup [.int (i : Nat), .ref kv]) ∧ H kv = some (.lst (xs.map V.str))
theorem RdW.keep {D : Addr} {m : Nat} {H0 H H' : Hp} {v : V} {z : Str} (k : ∀ b o, b ≠ D → H b = some o → H' b = some o) (h : RdW D m H0 H v z) : RdW D m H0 H' v z := by
  rcases h with h | ⟨i, xs, a, kv, g, e, na, nk, f1, f2, h1, h2⟩
  · exact .inl h
  · exact .inr ⟨i, xs, a, kv, g, e, na, nk, f1, f2, k _ _ na h1, k _ _ nk h2⟩
/-- a way of lists that was not there in H0 -/
def WayF (H0 H : Hp) (v : V) (w : Way) : Prop := ∃ a kv, v = .ref a ∧ H0 a = none ∧ H0 kv = none ∧ H a = some (.tup [.int w.1, .ref kv]) ∧ H kv = some (.lst (w.2.map V.str))
theorem WayF.keep {H0 H H' : Hp} {v : V} {w : Way} (s : Same H H') (h : WayF H0 H v w) : WayF H0 H' v w := by
  obtain ⟨a, kv, e, f1, f2, h1, h2⟩ := h
  exact ⟨a, kv, e, f1, f2, s _ _ h1, s _ _ h2⟩
/-- the line tells these ways and this end -/
def GoodL (many m : Nat) (y : Str) (ws : List Way) (e : List Str) : Prop := ∃ zs : List Str, lineW y = zs ++ ("|" : Str) :: e ∧ zs.length = many ∧ Paired (fun z (w : Way) => ∃ i : Nat, w.1 = (i : Nat) ∧ TellW m z i w.2) zs ws ∧ keysOk e = true
theorem cut_words (ws : List Str) (n : Nat) : cutV (ws.map V.str) none (some (n : Int)) = (ws.take n).map V.str := by
  unfold cutV
  rw [HT.sIx_none, HT.sIx_nat, List.length_map]
  rw [Nat.sub_zero, List.drop_zero, List.map_take]
  by_cases c : n ≤ ws.length
  · rw [Nat.min_eq_left c]
  · rw [Nat.min_eq_right (by omega), List.take_of_length_le (by simp), List.take_of_length_le (by rw [List.length_map]; omega)]
theorem cut_after (ws : List Str) (n : Nat) (h : n ≤ ws.length) : cutV (ws.map V.str) (some (n : Int)) none = (ws.drop n).map V.str := by
  unfold cutV
  rw [HT.sIx_none, HT.sIx_nat, List.length_map, Nat.min_eq_left h]
  rw [List.take_of_length_le (by rw [List.length_drop, List.length_map]; exact Nat.le_refl _), List.map_drop]
/-- all words told ways -/
theorem rd_all {D : Addr} {m : Nat} {H0 H : Hp} : ∀ {acc : List V} {zs : List Str}, Paired (RdW D m H0 H) acc zs →
    (((acc.map fun v => !decide (v = V.non)).all id = true ∧ ∃ ws, Paired (fun z (w : Way) => ∃ i : Nat, w.1 = (i : Nat) ∧ TellW m z i w.2) zs ws ∧ Paired (WayF H0 H) acc ws) ∨
      ((acc.map fun v => !decide (v = V.non)).all id = false ∧ ¬ ∃ ws, Paired (fun z (w : Way) => ∃ i : Nat, w.1 = (i : Nat) ∧ TellW m z i w.2) zs ws))
  | _, _, .nil => .inl ⟨rfl, [], .nil, .nil⟩
  | v :: acc, z :: zs, .cons r t => by
    rcases r with ⟨e, no⟩ | ⟨i, xs, a, kv, g, e, na, nk, f1, f2, h1, h2⟩
    · refine .inr ⟨by subst e; rfl, fun ⟨ws, h⟩ => ?_⟩
      cases h with
      | cons r _ =>
        obtain ⟨i, _, g⟩ := r
        exact no ⟨i, _, g⟩
    · subst e
      rcases rd_all t with ⟨h3, ws, h4, h5⟩ | ⟨h3, h4⟩
      · exact .inl ⟨h3, ((i : Int), xs) :: ws, .cons ⟨i, rfl, g⟩ h4, .cons ⟨a, kv, rfl, f1, f2, h1, h2⟩ h5⟩
      · refine .inr ⟨h3, fun ⟨ws, h⟩ => ?_⟩
        cases h with
        | cons _ h => exact h4 ⟨_, h⟩
theorem good_bad {m : Nat} {z x : Str} {xs : List Str} (sp : Txt.split z "+" = x :: xs) (h : numAt m x = none ∨ keysOk xs = false) : ¬ ∃ i us, TellW m z i us := fun ⟨i, us, g1, g2, g3⟩ => by
  rw [sp] at g1
  injection g1 with e1 e2
  subst e1 e2
  rcases h with h | h
  · rcases numAt_is m (numT i) with ⟨j, _, _, h2⟩ | ⟨_, h2⟩
    · rw [h] at h2
      cases h2
    · exact h2 i g2 rfl
  · rw [h] at g3
    cases g3
section
variable {P : Program} {w : World} {K : PySem.W.Frag} {mg : Str → Option Value} {base : Heap} {L : TAd} {fw fr : Addr} {dw dr : FuncData}
def spReadState : Sp := fun vs H Q _ => ∃ (y : Str) (many m : Nat) (d : Addr), vs = [.str y, .int many, .ref d] ∧ H d = some (.dK (numK m)) ∧ y.cps.size + 2 ≤ sizeLine ∧ (Txt.split y " ").length + 1 < scanBound ∧ (∀ z ∈ lineW y, AskW z) ∧
  (∀ H', Same H H' → (¬ ∃ ws e, GoodL many m y ws e) → Q .non H') ∧
  ∀ (p a b : Addr) (wv : List V) (ws : List Way) (e : List Str) H', Same H H' → GoodL many m y ws e → H p = none → H a = none → H b = none → H' p = some (.tup [.ref a, .ref b]) → H' a = some (.lst wv) → Paired (WayF H H') wv ws → H' b = some (.lst (e.map V.str)) → Q (.ref p) H'
abbrev Nstate : List Str := ["line", "many", "states", "words", "ways", "end", "word", "way"]
theorem sc_read_state : FnScope Nstate ["line", "many", "states"] (defScope s_read_state) := ⟨rfl, rfl, rfl, by decide +kernel, rfl, by decide +kernel, by decide +kernel⟩
theorem ok_read_state (T : TxtRs K mg L fw fr dw dr) : FnOk P w K mg base CX0 4 fr dr ["line", "many", "states"] spReadState := by
  have sc := sc_read_state
  have G_spaced : FnOk P w K mg base CX0 1 L.fs L.ds ["line"] spSpaced := ok_spaced T.w.t
  have G_are_keys : FnOk P w K mg base CX0 2 L.fa L.da ["words"] spAreKeys := ok_are_keys T.w.t
  have G_way : FnOk P w K mg base CX0 3 fw dw ["word", "states"] spReadWay := ok_read_way T.w
  refine T.D_read_state.F.ok sc (fun vs H Q E h => ?_) (fun cdv A1 outer s0 H vs Q E hr h => ?_)
  · obtain ⟨_, _, _, _, rfl, _⟩ := h; rfl
  · obtain ⟨y, many, m, d, rfl, hd, yl, y2, ask, bad, good⟩ := h
    refine ⟨_, (pss_cons (ps_set (i := 3) sc.nd rfl (Or.inl rfl) (pe_call G_spaced (hr.mono (by decide)) rfl T.w.t.D_spaced_words.g T.w.t.D_spaced_words.F.kp T.w.t.D_spaced_words.b .nil pass0 (pa_cons (pv 0) pa_nil)))
      (pss_cons (ps_if (PW.pt (pw_or (pt_cmpR op_le (pe_callB call_len (by rfl) T.w.t.n_len (by decide +kernel) (pa_cons (pv 3) pa_nil)) (pv 1) (nomark _)) (pw_or1 (pt_cmpR op_ne (pe_ix ix_list (pv 3) (pv 1) (fun _ _ => rfl)) pe_str (nomark _))))) (pss_one (ps_ret pe_non)) pss_nil)
      (pss_cons (ps_setLc (i := 4) (own := [("word", 6)]) (g := gName 6) (tt := tYes) (te := tCall spReadWay [] E0 (tCons (tVar 6) (tCons (tVar 2) tNil))) rfl sc.nd rfl rfl (sw_true rfl rfl rfl (by decide +kernel)) (pi_list (pe_slice sl_list (pv 3) po_none (po_some (pv 1)))) (blkOk_by (N := Nstate) (sc := defScope s_read_state) (own := [("word", 6)]) (by decide +kernel))
        (fun _ _ _ _ _ => (pg_name (i := 6) sc.nd rfl (Or.inl rfl))) (fun _ _ _ _ _ => pts_nil) (fun _ _ _ _ _ => pe_call G_way (hr.mono (by decide)) rfl T.w.D_read_way.g T.w.D_read_way.F.kp T.w.D_read_way.b .nil pass0 (pa_cons (pv 6) (pa_cons (pv 2) pa_nil))))
      (pss_cons (ps_set (i := 5) sc.nd rfl (Or.inl rfl) (pe_slice sl_list (pv 3) (po_some (pe_op op_add (pv 1) pe_int)) po_none))
      (pss_cons (ps_if (PW.pt (pw_or (pt_not (pt_val (pe_callB (cr_all rfl) (by rfl) T.w.t.n_all (by decide +kernel) (pa_cons (pe_lc (own := [("way", 7)]) (g := gName 7) (tt := tYes) rfl sc.nd (pi_list (pv 4)) (blkOk_by (N := Nstate) (sc := defScope s_read_state) (own := [("way", 7)]) (by decide +kernel)) (fun _ _ _ _ _ => (pg_name (i := 7) sc.nd rfl (Or.inl rfl))) (fun _ _ _ _ _ => pts_nil) (fun _ _ _ _ _ => pe_cmpR op_notN (pv 7) pe_non (nomark _))) pa_nil))))
        (pw_or1 (pt_not (pt_val (pe_call G_are_keys (hr.mono (by decide)) rfl T.w.t.D_are_keys.g T.w.t.D_are_keys.F.kp T.w.t.D_are_keys.b .nil pass0 (pa_cons (pv 5) pa_nil))))))) (pss_one (ps_ret pe_non)) pss_nil)
      (pss_one (ps_ret (pe_tup (pa_cons (pv 4) (pa_cons (pv 5) pa_nil)))))))))), ?_⟩
    refine ⟨_, rfl, y, rfl, yl, by have e : scanBound = 4096 := rfl; rw [sizeLine_eq]; omega, fun p H1 hp s1 h1 => ?_⟩
    have lW : (lineW y).length ≤ (Txt.split y " ").length := List.length_filter_le _ _
    have tell : ∀ ws e, GoodL many m y ws e → ∃ zs, lineW y = zs ++ ("|" : Str) :: e ∧ zs.length = many ∧ Paired (fun z (w : Way) => ∃ i : Nat, w.1 = (i : Nat) ∧ TellW m z i w.2) zs ws ∧ keysOk e = true := fun _ _ h => h
    have make : ∀ zs ws e, lineW y = zs ++ ("|" : Str) :: e → zs.length = many → Paired (fun z (w : Way) => ∃ i : Nat, w.1 = (i : Nat) ∧ TellW m z i w.2) zs ws → keysOk e = true → GoodL many m y ws e := fun zs ws e h1 h2 h3 h4 => ⟨zs, h1, h2, h3, h4⟩
    generalize lineW y = W at h1 lW ask tell make
    refine ⟨_, rfl, .ref p, W.length, rfl, .inl ⟨_, SqL.of h1, by rw [List.length_map]⟩, _, rfl, _, _, rfl, rfl, _, rfl, ?_⟩
    by_cases c1 : W.length ≤ many
    · rw [decide_eq_true (by omega : (W.length : Int) ≤ many)]
      refine iteT (bad H1 s1 fun ⟨ws, e, g⟩ => ?_)
      obtain ⟨zs, e1, e2, _⟩ := tell ws e g
      rw [e1, List.length_append, List.length_cons] at c1
      omega
    rw [decide_eq_false (by omega : ¬ (W.length : Int) ≤ many)]
    refine iteF ?_
    have hx : W[many]? = some (W[many]'(by omega)) := List.getElem?_eq_getElem (by omega)
    have hxv : (W.map V.str)[many]? = some (V.str (W[many]'(by omega))) := by rw [List.getElem?_map, hx]; rfl
    refine ⟨_, rfl, _, rfl, p, _, _, _, rfl, rfl, SqL.of h1, atI_nat hxv, rfl, _, rfl, ?_⟩
    by_cases c2 : V.str (W[many]'(by omega)) = V.str "|"
    case neg =>
      refine ifTn c2 (bad H1 s1 fun ⟨ws, e, g⟩ => ?_)
      obtain ⟨zs, e1, e2, _⟩ := tell ws e g
      refine c2 ?_
      subst e1
      congr 1
      rw [List.getElem_append_right (by omega)]
      simp [e2]
    refine ifFn c2 ?_
    have eW : W = W.take many ++ ("|" : Str) :: W.drop (many + 1) := by
      have e3 := V.str.inj c2
      rw [← e3, List.getElem_cons_drop, List.take_append_drop]
    have lz : (W.take many).length = many := by rw [List.length_take]; omega
    have only : ∀ ws e, GoodL many m y ws e → e = W.drop (many + 1) ∧ Paired (fun z (w : Way) => ∃ i : Nat, w.1 = (i : Nat) ∧ TellW m z i w.2) (W.take many) ws := fun ws e g => by
      obtain ⟨zs, e1, e2, e3, _⟩ := tell ws e g
      obtain ⟨e4, e5⟩ := List.append_inj (e1.symm.trans eW) (by rw [e2, lz])
      injection e5 with _ e5
      subst e4 e5
      exact ⟨rfl, e3⟩
    refine ⟨_, rfl, _, rfl, _, rfl, p, _, rfl, SqL.of h1, fun q hq => ?_⟩
    rw [cut_words]
    have s2 := Same.upd (o := .lst ((W.take many).map V.str)) hq
    have h2 : (upd H1 q (.lst ((W.take many).map V.str))) q = some (.lst ((W.take many).map V.str)) := upd_same
    generalize upd H1 q (.lst ((W.take many).map V.str)) = H2 at s2 h2 ⊢
    refine ⟨q, rfl, ⟨_, SqL.of h2⟩, fun D hD => ?_⟩
    have s12 : Same H H2 := fun b o z => s2 _ _ (s1 _ _ z)
    have nD := s12.free hD
    refine lcs_it [some (.str y), some (.int many), some (.ref d), some (.ref p), none, none, none, none] rfl walk_list (fun i H' => Same H2 H' ∧ ∃ acc, H' D = some (.lst acc) ∧ acc.length = i ∧ Paired (RdW D m H H') acc ((W.take many).take i)) ⟨Same.upd hD, [], upd_same, rfl, .nil⟩ (fun i H' _ z => SqL.of (z.1 _ _ h2)) ?_ ?_
    · rintro i x _ H3 hi ⟨s3, acc, hacc, la, pa⟩ ⟨rfl, hx3⟩
      rw [List.getElem?_map] at hx3
      obtain ⟨z, hz, rfl⟩ := Option.map_eq_some_iff.mp hx3
      have zW : z ∈ W := List.mem_of_mem_take (List.mem_of_getElem? hz)
      obtain ⟨z1, x1, xs1, z2, z3, z4⟩ := ask z zW
      have put : ∀ {H' : Hp} {o : HO}, Same H2 H' → Same H2 (upd H' D o) := fun {H' o} s b u e => by rw [upd_ne (ne_of_none e hD)]; exact s b u e
      have small : acc.length < sizeLine := by
        rw [List.length_map, lz] at hi
        have e : scanBound = 4096 := rfl
        rw [la, sizeLine_eq]
        omega
      refine ⟨rfl, _, rfl, _, rfl, z, x1, xs1, d, m, rfl, s3 _ _ (s12 _ _ hd), z1, z2, z3, z4, fun H4 s4 no => ?_, fun j p4 g4 H4 s4 np ng jm ej ek h4 hg4 => ?_⟩
      · refine ⟨acc, s4 _ _ hacc, small, put (fun b o e => s4 _ _ (s3 _ _ e)), _, upd_same, by rw [List.length_append, la]; rfl, ?_⟩
        rw [List.take_add_one, hz]
        refine psnoc (L2.Paired.mapP pa fun _ _ r => r.keep fun b o nb e => by rw [upd_ne nb]; exact s4 _ _ e) (.inl ⟨rfl, good_bad z2 no⟩)
      · have s123 : Same H H3 := fun b o e => s3 _ _ (s12 _ _ e)
        have npD : p4 ≠ D := fun e => by rw [e, hacc] at np; cases np
        have ngD : g4 ≠ D := fun e => by rw [e, hacc] at ng; cases ng
        refine ⟨acc, s4 _ _ hacc, small, put (fun b o e => s4 _ _ (s3 _ _ e)), _, upd_same, by rw [List.length_append, la]; rfl, ?_⟩
        rw [List.take_add_one, hz]
        refine psnoc (L2.Paired.mapP pa fun _ _ r => r.keep fun b o nb e => by rw [upd_ne nb]; exact s4 _ _ e) (.inr ⟨j, xs1, p4, g4, ⟨by rw [z2, ej], jm, ek⟩, rfl, npD, ngD, s123.free np, s123.free ng, by rw [upd_ne npD]; exact h4, by rw [upd_ne ngD]; exact hg4⟩)
    rintro H3 ⟨s3, acc, hacc, la, pa⟩
    rw [List.length_map, List.take_length] at pa
    have s13 : Same H H3 := fun b o z => s3 _ _ (s12 _ _ z)
    -- the end
    have h3 := s3 _ _ (s2 _ _ h1)
    refine ⟨_, rfl, _, rfl, _, _, rfl, rfl, _, rfl, p, _, rfl, SqL.of h3, fun g hg => ?_⟩
    have en : ((many : Int) + 1) = ((many + 1 : Nat) : Int) := by omega
    dsimp only
    rw [en, cut_after _ _ (by omega)]
    have s4 := Same.upd (o := .lst ((W.drop (many + 1)).map V.str)) hg
    have h4 : (upd H3 g (.lst ((W.drop (many + 1)).map V.str))) g = some (.lst ((W.drop (many + 1)).map V.str)) := upd_same
    have ng := s13.free hg
    generalize upd H3 g (.lst ((W.drop (many + 1)).map V.str)) = H4 at s4 h4 ⊢
    have pa4 : Paired (RdW D m H H4) acc (W.take many) := L2.Paired.mapP pa fun _ _ r => r.keep fun b o _ e => s4 b o e
    have hacc4 := s4 _ _ hacc
    have s14 : Same H H4 := fun b o z => s4 _ _ (s13 _ _ z)
    -- whether all told ways
    refine ⟨_, rfl, D, rfl, ⟨_, SqL.of hacc4⟩, fun D5 hD5 => ?_⟩
    have nD5 := s14.free hD5
    refine lcs_it [some (.str y), some (.int many), some (.ref d), some (.ref p), some (.ref D), some (.ref g), none, none] rfl walk_list (fun i H' => Same H4 H' ∧ H' D5 = some (.lst (((acc.take i).map fun v => !decide (v = V.non)).map V.bl))) ⟨Same.upd hD5, upd_same⟩ (fun i H' _ z => SqL.of (z.1 _ _ hacc4)) ?_ ?_
    · rintro i x _ H5 hi ⟨s5, h5⟩ ⟨rfl, hx5⟩
      refine ⟨rfl, _, rfl, rfl, _, h5, ?_, fun b o z => ?_, ?_⟩
      · rw [List.length_map, List.length_map, List.length_take]
        rw [List.length_map, lz] at la
        have e : scanBound = 4096 := rfl
        rw [sizeLine_eq]
        omega
      · rw [upd_ne (ne_of_none z hD5)]
        exact s5 _ _ z
      · rw [upd_same, List.take_add_one, hx5, List.map_append, List.map_append]
        rfl
    rintro H5 ⟨s5, h5⟩
    rw [List.take_length] at h5
    have s15 : Same H H5 := fun b o z => s5 _ _ (s14 _ _ z)
    refine ⟨D5, _, rfl, SqL.of h5, _, rfl, ?_⟩
    rcases rd_all pa4 with ⟨ea, ws, pw, pe⟩ | ⟨ea, no⟩
    · rw [ea]
      refine iteF ?_
      refine ⟨_, rfl, g, W.drop (many + 1), rfl, s5 _ _ h4, ?_, fun z hz => ?_, fun H6 s6 => ?_⟩
      · rw [List.length_drop]
        omega
      · have := (ask z (List.mem_of_mem_drop hz)).1
        omega
      refine ⟨_, rfl, ?_⟩
      have s16 : Same H H6 := fun b o z => s6 _ _ (s15 _ _ z)
      cases ek : keysOk (W.drop (many + 1)) with
      | false =>
        refine bad H6 s16 fun ⟨ws2, e, gd⟩ => ?_
        obtain ⟨e1, _⟩ := only ws2 e gd
        obtain ⟨_, _, _, _, e2⟩ := tell ws2 e gd
        rw [e1, ek] at e2
        cases e2
      | true =>
        refine ⟨_, rfl, _, rfl, by show 2 ≤ sizeLine; decide, fun p7 hp7 => ?_⟩
        have s7 : Same H4 (upd H6 p7 (.tup [.ref D, .ref g])) := fun b o z => Same.upd hp7 _ _ (s6 _ _ (s5 _ _ z))
        exact good p7 D g acc ws (W.drop (many + 1)) _ (fun b o z => Same.upd hp7 _ _ (s16 _ _ z)) (make _ _ _ eW lz pw ek) (s16.free hp7) nD ng upd_same (s7 _ _ hacc4) (L2.Paired.mapP pe fun _ _ z => z.keep s7) (s7 _ _ h4)
    · rw [ea]
      refine iteT ?_
      exact bad H5 s15 fun ⟨ws2, e, gd⟩ => no ⟨ws2, (only ws2 e gd).2⟩
end
end Kx

namespace Own
open PySem PySem.Spec L2 PyProof.Rows
/-! ### y = {k: v for ..}, y a local: the store happens within the display's frame -/
theorem swap_dc {kx vx : Expr} {gs : List Comprehension} {scope : Scope} {pos py : Pos} {y : Str} {l : Nat} {env : Env} (h1 : env.scope.kind = .function) (h2 : env.scope.names.lookup y = some .local) (h3 : (py.line == pos.line) = true)
    (h4 : (scope.names.any fun (n, k) => n == y && (k == .local || k == .cell)) = false) : swapsWith (.DictComp kx vx gs scope pos) (some (.Name y py)) l env = pure true := by
  have kind : env.kindOf y = some .local := h2
  have block : env.blockKind = .function := by
    unfold Env.blockKind
    rw [h1]
    rfl
  unfold swapsWith
  simp only [block, kind, h4, Expr.pos, h3]
  rfl
theorem ps_setDc {X : Cx} {i : Nat} {y : Str} {py pos spos : Pos} {kx vx tg iter : Expr} {ifs : List Expr} {scope : Scope} {own : List (Str × Nat)} {wi : TI} {g : TG} {tt : TT} {tk tv : TE} (hc : X.calm = true) (hN : X.N.Nodup) (hy : X.N[i]? = some y) (hl : X.env.scope.names.lookup y = some .local)
    (sw : swapsWith (.DictComp kx vx [⟨tg, iter, ifs, 0⟩] scope pos) (some (.Name y py)) spos.line X.env = pure true) (hi : PI X tg iter wi) (ok : BlkOk X.N X.env.scope scope own)
    (hg : ∀ s H C cl fp, PG (X.blk s H scope (compEnvC scope cl C X.env) fp) tg g) (ht : ∀ s H C cl fp, PTs (X.blk s H scope (compEnvC scope cl C X.env) fp) ifs tt)
    (hk : ∀ s H C cl fp, PE (X.blk s H scope (compEnvC scope cl C X.env) fp) kx tk) (hv : ∀ s H C cl fp, PE (X.blk s H scope (compEnvC scope cl C X.env) fp) vx tv) (hs : ∀ x, foldedSetIterable iter X.env x = pure x := by intro _; rfl) :
    PS X (.Assign [.Name y py] (.DictComp kx vx [⟨tg, iter, ifs, 0⟩] scope pos) spos) (tAsg (tDc wi g tt tk tv (own.map (·.2))) (gName i)) := by
  constructor
  intro pins s σ H D I h
  rw [exec_Assign_Name_used _ _ _ _ sw]
  refine wpAny_bind (wpAny_standAt (wpAny_bind ?_))
  show wpAny _ X.A (do let _ ← comprehension (.DictComp kx vx [⟨tg, iter, ifs, 0⟩] scope pos) scope X.env (firstIterPos [⟨tg, iter, ifs, 0⟩] pos) newDict false (eval iter X.env) (some (assign (.Name y py) X.env))) _ _ s
  have told : tDc wi g tt tk tv (own.map (·.2)) σ H (fun x H1 => gName i x σ H1 D.nx) := h
  refine wpAny_bind (thn (dc_core (Qf := fun _ s' => SP X pins D .next s') hc hN I hi ok hg ht hk hv hs told fun L C s' m H' I' q hn fr => ?_) fun _ s' hq => wpAny_pure (wpAny_pure hq))
  show wpAny _ _ (assign (.Name y py) X.env (.ref L)) _ _ _
  obtain ⟨q0, q1, q2, q3, q4, q5⟩ := fr
  refine wpAny_assign_Name (store_ok2 (v := V.ref L) I' hN hy (.inl hl) rfl (fun s2 I2 ⟨a, sb, ha⟩ => ?_) (.inr hl))
  have away : C ≠ a := by
    rcases ha with z | z
    · rw [z]
      exact q1
    · exact fun e => q4 y a z e.symm
  exact ⟨m, hn.sameBut sb away, fun h3 sb3 => ⟨_, H', I2.turned (t' := s2.toks) (fun b o hb e => (sb3.2 b hb).trans e) q0 q1 q3 q4 q5, q⟩⟩
end Own

namespace Kx
open PySem L2 Own
abbrev s_read_parts : Stmt := top 20
abbrev s_BadText : Stmt := inClass (top 14) 0
structure TxtRp (K : PySem.W.Frag) (mg : Str → Option Value) (L : TAd) (f1 f2 f3 f4 f : Addr) (d1 d2 d3 d4 d : FuncData) : Prop where
  si : TxtSi K mg L f1 f2 d1 d2
  rs : TxtRs K mg L f3 f4 d3 d4
  D_read_parts : DefT K mg "read_parts" "read_parts" s_read_parts ["text"] f d
  g_MOST_STATES : ∃ t, mg "MOST_STATES" = some (.int 16 t)
  n_range : mg "range" = none
def WayK (r e : Addr) (H : Hp) (v : V) (w : Way) : Prop := ∃ b kv, v = .ref b ∧ b ≠ r ∧ b ≠ e ∧ kv ≠ r ∧ kv ≠ e ∧ H b = some (.tup [.int w.1, .ref kv]) ∧ H kv = some (.lst (w.2.map V.str))
def RowK (r e : Addr) (H : Hp) (v : V) (q : List Way) : Prop := ∃ a vs, v = .ref a ∧ a ≠ r ∧ a ≠ e ∧ H a = some (.lst vs) ∧ Paired (WayK r e H) vs q
def EndK (r e : Addr) (H : Hp) (v : V) (ks : List Str) : Prop := ∃ a, v = .ref a ∧ a ≠ r ∧ a ≠ e ∧ H a = some (.lst (ks.map V.str))
section
variable {r e : Addr} {H H' : Hp}
theorem WayK.keep (k : ∀ b o, b ≠ r → b ≠ e → H b = some o → H' b = some o) {v : V} {w : Way} (h : WayK r e H v w) : WayK r e H' v w := by
  obtain ⟨b, kv, e0, n1, n2, n3, n4, h1, h2⟩ := h
  exact ⟨b, kv, e0, n1, n2, n3, n4, k _ _ n1 n2 h1, k _ _ n3 n4 h2⟩
theorem RowK.keep (k : ∀ b o, b ≠ r → b ≠ e → H b = some o → H' b = some o) {v : V} {q : List Way} (h : RowK r e H v q) : RowK r e H' v q := by
  obtain ⟨a, vs, e0, n1, n2, h1, h2⟩ := h
  exact ⟨a, vs, e0, n1, n2, k _ _ n1 n2 h1, L2.Paired.mapP h2 fun _ _ z => z.keep k⟩
theorem EndK.keep (k : ∀ b o, b ≠ r → b ≠ e → H b = some o → H' b = some o) {v : V} {q : List Str} (h : EndK r e H v q) : EndK r e H' v q := by
  obtain ⟨a, e0, n1, n2, h1⟩ := h
  exact ⟨a, e0, n1, n2, k _ _ n1 n2 h1⟩
theorem RowK.row {v : V} {q : List Way} (h : RowK r e H v q) : RowE H v q := by
  obtain ⟨a, vs, e0, _, _, h1, h2⟩ := h
  exact ⟨a, vs, e0, h1, L2.Paired.mapP h2 fun _ _ ⟨b, kv, e1, _, _, _, _, h3, h4⟩ => ⟨b, kv, e1, h3, h4⟩⟩
theorem EndK.key {v : V} {q : List Str} (h : EndK r e H v q) : KeyE H v q := by
  obtain ⟨a, e0, _, _, h1⟩ := h
  exact ⟨a, e0, h1⟩
end
theorem numK_put {i : Nat} : putK (numK i) (Sum.inr (numT i)) (.int (i : Nat)) = numK (i + 1) := by
  have hn : valV (numK i) (Sum.inr (numT i)) = none := by
    rcases numAt_is i (numT i) with ⟨j, hj, e, _⟩ | ⟨e, _⟩
    · have := num_inj e
      omega
    · exact e
  unfold putK
  rw [valV_any, hn, if_neg (show ¬ (none : Option V).isSome = true by simp)]
  unfold numK
  rw [List.range_succ, List.map_append]
  rfl
/-- a line that can be asked -/
def AskL (l : Str) : Prop := l.cps.size + 2 ≤ sizeLine ∧ (Txt.split l " ").length + 1 < scanBound ∧ ∀ z ∈ lineW l, AskW z
section
variable {P : Program} {w : World} {K : PySem.W.Frag} {mg : Str → Option Value} {base : Heap} {L : TAd} {f1 f2 f3 f4 f : Addr} {d1 d2 d3 d4 d : FuncData}
/-- the i-th line behind the first one is right -/
def LineOk (many m : Nat) (ls : List Str) (i : Nat) : Prop := i < 16 ∧ ∃ l ws e, ls[i]? = some l ∧ GoodL many m l ws e
/-- the first wrong line -/
def Wrong (l0 : Str) (ls : List Str) (n : Nat) : Prop := (signsOf l0 = none ∧ n = 1) ∨ ∃ sg, signsOf l0 = some sg ∧ ((ls = [] ∧ n = 2) ∨ ∃ i, i < ls.length ∧ n = i + 2 ∧ (∀ j, j < i → LineOk sg.cps.size ls.length ls j) ∧ ¬ LineOk sg.cps.size ls.length ls i)
theorem signsOf_ok {y sg : Str} (h : signsOf y = some sg) : signsOk sg = true ∧ lineW y = [("signs" : Str), sg] := by
  unfold signsOf at h
  split at h
  · rename_i a z e
    split at h
    · rename_i c
      cases h
      refine ⟨c.2, ?_⟩
      rw [e]
      have : a = "signs" := by
        have := c.1
        injection this
      rw [this]
    · cases h
  · cases h
theorem signsOk_four {sg : Str} (h : signsOk sg = true) : sg.cps.size ≤ 4 := by
  unfold signsOk at h
  simp only [Bool.and_eq_true, Bool.not_eq_true', decide_eq_false_iff_not] at h
  omega
structure TxtBt (K : PySem.W.Frag) (mg : Str → Option Value) (A : EAd) (C I : Addr) (e : FuncData) : Prop where
  E_BadText : ErrC K mg "BadText" C A.M
  I_BadText : IniT K "BadText.__init__" s_BadText C I e ["self", "line"]
  N_line : PySem.W.findIn K (.ref C) "line" = some none
theorem sc_BadText : FnScope ["self", "line"] ["self", "line"] (defScope s_BadText) := ⟨rfl, rfl, rfl, by decide +kernel, rfl, by decide +kernel, by decide +kernel⟩
theorem ok_BadText {A : EAd} {C I : Addr} {e : FuncData} (T : TxtE K mg A) (TB : TxtBt K mg A C I e) : FnOk P w K mg base CX0 2 I e ["self", "line"] (spErr C ["line"]) := by
  have sc := sc_BadText
  have G_copied : FnOk P w K mg base CX0 1 A.fc A.dc ["field"] spFlat := ok_copied T
  refine TB.I_BadText.F.ok sc (fun vs H Q E h => ?_) (fun cdv A1 outer s H vs Q E hr h => ?_)
  · obtain ⟨_, us, rfl, l, _⟩ := h
    rw [List.length_cons, l]; rfl
  · obtain ⟨a, us, rfl, l, ha, hf, k⟩ := h
    obtain ⟨v, rfl⟩ : ∃ v, us = [v] := List.length_eq_one_iff.mp l
    refine ⟨_, (pss_one (ps_ost (pv 0) (pe_call G_copied (hr.mono (by decide)) rfl T.D_copied.g T.D_copied.F.kp T.D_copied.b .nil pass0 (pa_cons (pv 1) pa_nil)))), ?_⟩
    refine ⟨_, rfl, v, rfl, hf v List.mem_cons_self, _, rfl, a, C, rfl, TB.E_BadText.oex, TB.N_line, .inl ⟨ha, fun dx hd ne => ?_⟩⟩
    refine k dx _ hd ne upd_same (by rw [upd_ne ne, upd_same]; rfl) fun b o e nb => ?_
    rw [upd_ne nb, upd_ne (ne_of_none e hd)]
    exact e
/-- read_parts(text) -/
def spParts (C : Addr) : Sp := fun vs H Q E => ∃ (y l0 : Str) (ls : List Str), vs = [.str y] ∧ y.cps.size + 2 ≤ sizeLine ∧ Txt.split y "\n" = l0 :: ls ∧ ls.length ≤ 1000 ∧ AskL l0 ∧ (∀ l ∈ ls, AskL l) ∧
  (∀ (n : Nat) (d : Addr) H', Wrong l0 ls n → H d = none → Same H H' → H' d = some (.xd [("line", .int n)]) → E (.ref C) (some d) H') ∧
  ∀ (sg : Str) (p a b : Addr) (rv ev : List V) (rs : List (List Way × List Str)) H', signsOf l0 = some sg → 1 ≤ ls.length → ls.length ≤ 16 → Same H H' → Paired (fun l (x : List Way × List Str) => GoodL sg.cps.size ls.length l x.1 x.2) ls rs → H' p = some (.tup [.str sg, .ref a, .ref b]) → H' a = some (.lst rv) → Paired (RowE H') rv (rs.map (·.1)) → H' b = some (.lst ev) → Paired (KeyE H') ev (rs.map (·.2)) → Q (.ref p) H'
abbrev Nparts : List Str := ["text", "lines", "signs", "states", "rows", "ends", "at", "parts", "ways", "end", "state"]
theorem sc_parts : FnScope Nparts ["text"] (defScope s_read_parts) := ⟨rfl, rfl, rfl, by decide +kernel, rfl, by decide +kernel, by decide +kernel⟩
theorem ok_parts {A : EAd} {C I : Addr} {eb : FuncData} (TE : TxtE K mg A) (TB : TxtBt K mg A C I eb) (T : TxtRp K mg L f1 f2 f3 f4 f d1 d2 d3 d4 d) : FnOk P w K mg base (L2.CX P w) 5 f d ["text"] (spParts C) := by
  have sc := sc_parts
  have G_signs : FnOk P w K mg base CX0 2 f2 d2 ["line"] spReadSigns := ok_read_signs T.si
  have G_state : FnOk P w K mg base CX0 4 f4 d4 ["line", "many", "states"] spReadState := ok_read_state T.rs
  obtain ⟨t1, g1⟩ := T.g_MOST_STATES
  refine T.D_read_parts.F.okX sc (fun vs H Q E h => ?_) (fun cdv A1 outer s0 H vs Q E hr h => ?_)
  · obtain ⟨_, _, _, rfl, _⟩ := h; rfl
  · obtain ⟨y, l0, ls, rfl, yl, sp, m1000, a0, als, bad, good⟩ := h
    refine ⟨_, (pss_cons (ps_set (i := 1) sc.nd rfl (Or.inl rfl) (pe_split (pv 0) pe_str))
      (pss_cons (ps_set (i := 2) sc.nd rfl (Or.inl rfl) (pe_call G_signs (hr.mono (by decide)) rfl T.si.D_read_signs.g T.si.D_read_signs.F.kp T.si.D_read_signs.b .nil pass0 (pa_cons (pe_ix ix_list (pv 1) pe_int (fun _ _ => rfl)) pa_nil)))
      (pss_cons (ps_if (pt_cmpR op_isN (pv 2) pe_non (nomark _)) (pss_one (ps_raise rfl (takes_of rfl rfl rfl rfl) (pmk_oex TB.E_BadText.oex TB.I_BadText.iC TB.I_BadText.tI (ok_BadText TE TB) (hr.mono (by decide)) TB.I_BadText.b .nil pass0 rfl TB.E_BadText.g (pa_cons pe_int pa_nil)))) pss_nil)
      (pss_cons (ps_if (pt_cmpR op_eq (pe_callB call_len (by rfl) T.si.t.n_len (by decide +kernel) (pa_cons (pv 1) pa_nil)) pe_int (nomark _)) (pss_one (ps_raise rfl (takes_of rfl rfl rfl rfl) (pmk_oex TB.E_BadText.oex TB.I_BadText.iC TB.I_BadText.tI (ok_BadText TE TB) (hr.mono (by decide)) TB.I_BadText.b .nil pass0 rfl TB.E_BadText.g (pa_cons pe_int pa_nil)))) pss_nil)
      (pss_cons (ps_setDc (i := 3) (own := [("state", 10)]) (g := gName 10) (tt := tYes) (tk := tCB rStrI (tCons (tVar 10) tNil)) (tv := tVar 10) rfl sc.nd rfl rfl (swap_dc rfl rfl rfl (by decide +kernel)) (pi_range1 rfl T.n_range (pa_cons (pe_op op_sub (pe_callB call_len (by rfl) T.si.t.n_len (by decide +kernel) (pa_cons (pv 1) pa_nil)) pe_int) pa_nil)) (blkOk_by (N := Nparts) (sc := defScope s_read_parts) (own := [("state", 10)]) (by decide +kernel))
        (fun _ _ _ _ _ => (pg_name (i := 10) sc.nd rfl (Or.inl rfl))) (fun _ _ _ _ _ => pts_nil) (fun _ _ _ _ _ => pe_callTy call_str_int (by rfl) T.si.t.n_str (by decide +kernel) (pa_cons (pv 10) pa_nil)) (fun _ _ _ _ _ => pv 10))
      (pss_cons (ps_set (i := 4) sc.nd rfl (Or.inl rfl) (pe_lst pa_nil))
      (pss_cons (ps_set (i := 5) sc.nd rfl (Or.inl rfl) (pe_lst pa_nil))
      (pss_cons (ps_for (passes_of rfl) rfl (pi_range2 rfl T.n_range (pa_cons pe_int (pa_cons (pe_callB call_len (by rfl) T.si.t.n_len (by decide +kernel) (pa_cons (pv 1) pa_nil)) pa_nil))) (pg_name (i := 6) sc.nd rfl (Or.inl rfl))
        (pss_cons (ps_set (i := 7) sc.nd rfl (Or.inl rfl) (pe_call G_state (hr.mono (by decide)) rfl T.rs.D_read_state.g T.rs.D_read_state.F.kp T.rs.D_read_state.b .nil pass0 (pa_cons (pe_ix ix_list (pv 1) (pv 6) (fun _ _ => rfl)) (pa_cons (pe_callB call_len (by rfl) T.si.t.n_len (by decide +kernel) (pa_cons (pv 2) pa_nil)) (pa_cons (pv 3) pa_nil)))))
        (pss_cons (ps_if (PW.pt (pw_or (pt_cmpR op_isN (pv 7) pe_non (nomark _)) (pw_or1 (pt_cmpR op_gt (pv 6) (pe_glob (v := .int 16) rfl g1 ⟨_, rfl⟩) (nomark _))))) (pss_one (ps_raise rfl (takes_of rfl rfl rfl rfl) (pmk_oex TB.E_BadText.oex TB.I_BadText.iC TB.I_BadText.tI (ok_BadText TE TB) (hr.mono (by decide)) TB.I_BadText.b .nil pass0 rfl TB.E_BadText.g (pa_cons (pe_op op_add (pv 6) pe_int) pa_nil)))) pss_nil)
        (pss_cons (ps_asg (pv 7) (pg_tup rfl (pgs_cons (pg_name (i := 8) sc.nd rfl (Or.inl rfl)) (pgs_cons (pg_name (i := 9) sc.nd rfl (Or.inl rfl)) pgs_nil))))
        (pss_cons (ps_expr (pe_bm PySem.F.plainAttrs_list PySem.F.slot_list_append PySem.F.type_list_append mt_append (pv 4) (pa_cons (pv 8) pa_nil)))
        (pss_one (ps_expr (pe_bm PySem.F.plainAttrs_list PySem.F.slot_list_append PySem.F.type_list_append mt_append (pv 5) (pa_cons (pv 9) pa_nil)))))))))
      (pss_one (ps_ret (pe_tup (pa_cons (pv 2) (pa_cons (pv 4) (pa_cons (pv 5) pa_nil)))))))))))))), ?_⟩
    refine ⟨_, rfl, ⟨_, rfl⟩, y, "\n", rfl, rfl, by decide, yl, fun q hq => ?_⟩
    rw [sp]
    have s1 := Same.upd (o := .lst ((l0 :: ls).map V.str)) hq
    have h1 : (upd H q (.lst ((l0 :: ls).map V.str))) q = some (.lst ((l0 :: ls).map V.str)) := upd_same
    generalize upd H q (.lst ((l0 :: ls).map V.str)) = H1 at s1 h1 ⊢
    have i0 : atI ((l0 :: ls).map V.str) 0 = some (.str l0) := atI_nat (j := 0) rfl
    have e4 : scanBound = 4096 := rfl
    refine ⟨_, rfl, q, _, 0, _, rfl, rfl, SqL.of h1, i0, l0, rfl, a0.1, by have := a0.2.1; rw [sizeLine_eq]; omega, fun z hz => ?_, fun H2 s2 => ?_⟩
    · have := (a0.2.2 z hz).1
      omega
    have rs1 : ∀ {H1 : Hp} (n : Nat), Wrong l0 ls n → Same H H1 → ([V.int (n : Nat)] : List V).length ≤ 1000 ∧ ∀ a, H1 a = none → spErr C ["line"] (.ref a :: ([V.int (n : Nat)] ++ [])) (upd H1 a (exo a C none)) (fun u H2 => u = .non ∧ ∃ (dx : Addr) (fs : List (Str × V)), H2 a = some (exo a C (some dx)) ∧ H2 dx = some (exd dx fs) ∧ H1 dx = none ∧ E (.ref C) (some dx) (upd (del H2 a) dx (.xd fs))) (fun _ _ _ => False) := fun {H1} n hw s1 =>
      rsE rfl (by show 1 ≤ 1000; decide) (fun u hu => .inl (by
        rw [List.mem_singleton.mp hu]
        exact ⟨_, rfl⟩)) fun dx H5 hd s5 h5 => bad n dx H5 hw (s1.free hd) (fun b o e => s5 _ _ (s1 _ _ e)) h5
    have h2 := s2 _ _ h1
    have s12 : Same H H2 := fun b o z => s2 _ _ (s1 _ _ z)
    cases hsg : signsOf l0 with
    | none =>
      refine ⟨_, rfl, rfl, _, rfl, iteT ?_⟩
      exact rs1 1 (.inl ⟨hsg, rfl⟩) s12
    | some sg =>
    have sg4 := signsOk_four (signsOf_ok hsg).1
    have sgl : sg.cps.size ≤ sizeLine := by rw [sizeLine_eq]; omega
    refine ⟨_, rfl, rfl, _, rfl, iteF ?_⟩
    have len2 : ((l0 :: ls).map V.str).length = ls.length + 1 := by simp
    refine ⟨_, rfl, .ref q, ls.length + 1, rfl, .inl ⟨_, SqL.of h2, len2.symm⟩, rfl, _, rfl, ?_⟩
    by_cases c1 : ls.length = 0
    · rw [decide_eq_true (show V.int ((ls.length + 1 : Nat) : Int) = V.int 1 by rw [c1]; rfl)]
      refine iteT ?_
      exact rs1 2 (.inr ⟨sg, hsg, .inl ⟨List.length_eq_zero_iff.mp c1, rfl⟩⟩) s12
    have m1 : 1 ≤ ls.length := by omega
    rw [decide_eq_false (show ¬ V.int ((ls.length + 1 : Nat) : Int) = V.int 1 from fun z => by have := V.int.inj z; omega)]
    refine iteF ?_
    refine ⟨_, rfl, .ref q, ls.length + 1, rfl, .inl ⟨_, SqL.of h2, len2.symm⟩, _, _, rfl, rfl, _, rfl, by omega, by omega, fun d hd => ?_⟩
    have ej : (((ls.length + 1 : Nat) : Int) - 1).toNat = ls.length := by omega
    rw [ej]
    refine dcs_it [some (.str y), some (.ref q), some (.str sg), none, none, none, none, none, none, none, none] rfl walk_range (fun i H' => Same H2 H' ∧ H' d = some (.dK (numK i))) ⟨Same.upd hd, upd_same⟩ (fun _ _ _ _ => trivial) ?_ ?_
    · rintro i x _ H3 hi ⟨s3, h3⟩ ⟨rfl, ex⟩
      have ex2 : x = V.int (i : Nat) := by
        rw [ex]
        show V.int (0 + (i : Int)) = _
        rw [Int.zero_add]
      clear ex
      subst ex2
      refine ⟨rfl, _, rfl, (i : Nat), rfl, Nat.lt_of_le_of_lt (Nat.log2_le_self _) (by omega), _, rfl, numK i, Sum.inr (numT i), rfl, h3, ?_, fun b o z => ?_, ?_⟩
      · unfold numK
        rw [List.length_map, List.length_range, sizeLine_eq]
        omega
      · rw [upd_ne (ne_of_none z hd)]
        exact s3 _ _ z
      · rw [upd_same, numK_put]
    rintro H3 ⟨s3, hd3⟩
    have s13 : Same H H3 := fun b o z => s3 _ _ (s12 _ _ z)
    refine ⟨by decide, fun r hr => ⟨by decide, fun e he => ?_⟩⟩
    have re : r ≠ e := fun z => by rw [← z, upd_same] at he; cases he
    have hr1 : (upd (upd H3 r (.lst [])) e (.lst [])) r = some (.lst []) := Same.upd he _ _ upd_same
    have he1 : (upd (upd H3 r (.lst [])) e (.lst [])) e = some (.lst []) := upd_same
    have s4 : Same H3 (upd (upd H3 r (.lst [])) e (.lst [])) := fun b o z => Same.upd he _ _ (Same.upd hr _ _ z)
    have ne3 : H3 e = none := (Same.upd hr).free he
    generalize upd (upd H3 r (.lst [])) e (.lst []) = H4 at hr1 he1 s4 ⊢
    have h4 := s4 _ _ (s3 _ _ h2)
    refine ⟨_, rfl, .ref q, ls.length + 1, rfl, .inl ⟨_, SqL.of h4, len2.symm⟩, 1, _, rfl, ⟨by decide, by decide, by omega, by omega⟩, ?_⟩
    have en : (((ls.length + 1 : Nat) : Int) - 1).toNat = ls.length := by omega
    rw [en]
    refine for_it walk_range (fun i σ H' => (∃ x6 x7 x8 x9, σ = [some (.str y), some (.ref q), some (.str sg), some (.ref d), some (.ref r), some (.ref e), x6, x7, x8, x9, none]) ∧ Same H3 H' ∧ ∃ (rv ev : List V) (rs : List (List Way × List Str)), H' r = some (.lst rv) ∧ H' e = some (.lst ev) ∧ rv.length = i ∧ ev.length = i ∧ Paired (RowK r e H') rv (rs.map (·.1)) ∧ Paired (EndK r e H') ev (rs.map (·.2)) ∧ Paired (fun l (x : List Way × List Str) => GoodL sg.cps.size ls.length l x.1 x.2) (ls.take i) rs ∧ i ≤ 16)
      ⟨⟨_, _, _, _, rfl⟩, s4, [], [], [], hr1, he1, rfl, rfl, .nil, .nil, .nil, Nat.zero_le _⟩ (fun _ _ _ _ _ => trivial) ?_ ?_
    · rintro i x σ _ H5 hi ⟨⟨x6, x7, x8, x9, rfl⟩, s5, rv, ev, rs, hr5, he5, lr, le, pr, pe, pg, i16⟩ ⟨rfl, ex⟩
      have ex2 : x = V.int ((i + 1 : Nat) : Int) := by
        rw [ex]
        show V.int (1 + (i : Int)) = _
        congr 1
        omega
      clear ex
      subst ex2
      have hl : ls[i]? = some (ls[i]'hi) := List.getElem?_eq_getElem hi
      have hx : ((l0 :: ls).map V.str)[i + 1]? = some (V.str (ls[i]'hi)) := by rw [List.getElem?_map, List.getElem?_cons_succ, hl]; rfl
      obtain ⟨a1, a2, a3⟩ := als _ (List.getElem_mem hi)
      generalize ls[i]'hi = l at hl hx a1 a2 a3
      have ahead : ∀ j, j < i → LineOk sg.cps.size ls.length ls j := fun j hj => by
        have hjl : ls[j]? = some (ls[j]'(by omega)) := List.getElem?_eq_getElem (by omega)
        have hj2 : (ls.take i)[j]? = some (ls[j]'(by omega)) := by rw [List.getElem?_take_of_lt hj]; exact hjl
        obtain ⟨x, _, gx⟩ := pat pg hj2
        exact ⟨by omega, _, x.1, x.2, hjl, gx⟩
      have s15 : Same H H5 := fun b o z => s5 _ _ (s13 _ _ z)
      have stop : ¬ LineOk sg.cps.size ls.length ls i → ∀ {H6 : Hp}, Same H5 H6 → _ := fun no H6 s6 => rs1 (H1 := H6) (i + 2) (.inr ⟨sg, hsg, .inr ⟨i, hi, rfl, ahead, no⟩⟩) fun b o z => s6 _ _ (s15 _ _ z)
      have one : V.int (((i + 1 : Nat) : Int) + 1) = V.int ((i + 2 : Nat) : Int) := congrArg V.int (by omega)
      have q5 := s5 _ _ (s3 _ _ h2)
      refine ⟨_, rfl, _, rfl, q, _, _, _, rfl, rfl, SqL.of q5, atI_nat hx, _, rfl, .str sg, sg.cps.size, rfl, ⟨sgl, rfl⟩, _, rfl, l, sg.cps.size, ls.length, d, rfl, s5 _ _ hd3, a1, a2, a3, fun H6 s6 no => ?_, fun p a b wv ws e6 H6 s6 gd np na nb hp ha pw hb => ?_⟩
      · refine ⟨_, rfl, rfl, _, rfl, iteT ?_⟩
        refine ⟨_, rfl, _, _, rfl, rfl, ?_⟩
        have z := stop (fun ⟨_, l', ws, e, e1, g⟩ => no ⟨ws, e, by rw [hl] at e1; cases e1; exact g⟩) s6
        rw [← one] at z
        exact z
      refine ⟨_, rfl, rfl, _, rfl, iteF ?_⟩
      refine ⟨_, rfl, _, _, rfl, rfl, _, rfl, ?_⟩
      by_cases c16 : 16 ≤ i
      · rw [decide_eq_true (by omega : (16 : Int) < ((i + 1 : Nat) : Int))]
        refine iteT ?_
        refine ⟨_, rfl, _, _, rfl, rfl, ?_⟩
        have z := stop (fun z => c16 |> fun c => by have := z.1; omega) s6
        rw [← one] at z
        exact z
      rw [decide_eq_false (by omega : ¬ (16 : Int) < ((i + 1 : Nat) : Int))]
      refine iteF ?_
      refine ⟨_, rfl, p, _, rfl, SqT.of hp, rfl, _, _, rfl, _, _, rfl, rfl, ?_⟩
      have nr : ∀ {c : Addr}, H5 c = none → c ≠ r := fun h z => by rw [z, hr5] at h; cases h
      have ne : ∀ {c : Addr}, H5 c = none → c ≠ e := fun h z => by rw [z, he5] at h; cases h
      have hr6 := s6 _ _ hr5
      have he6 := s6 _ _ he5
      refine ⟨_, rfl, .inl ⟨rfl, _, SqL.of hr6⟩, _, rfl, r, rv, _, rfl, rfl, hr6, by rw [lr, sizeLine_eq]; omega, ?_⟩
      have he7 : (upd H6 r (.lst (rv ++ [.ref a]))) e = some (.lst ev) := by rw [upd_ne re.symm]; exact he6
      refine ⟨_, rfl, .inl ⟨rfl, _, SqL.of he7⟩, _, rfl, e, ev, _, rfl, rfl, he7, by rw [le, sizeLine_eq]; omega, ?_⟩
      have far6 : ∀ c o, c ≠ r → c ≠ e → H6 c = some o → (upd (upd H6 r (.lst (rv ++ [.ref a]))) e (.lst (ev ++ [.ref b]))) c = some o := fun c o n1 n2 z => by rw [upd_ne n2, upd_ne n1]; exact z
      have hrL : (upd (upd H6 r (.lst (rv ++ [.ref a]))) e (.lst (ev ++ [.ref b]))) r = some (.lst (rv ++ [.ref a])) := by rw [upd_ne re]; exact upd_same
      have heL : (upd (upd H6 r (.lst (rv ++ [.ref a]))) e (.lst (ev ++ [.ref b]))) e = some (.lst (ev ++ [.ref b])) := upd_same
      generalize upd (upd H6 r (.lst (rv ++ [.ref a]))) e (.lst (ev ++ [.ref b])) = H8 at far6 hrL heL ⊢
      refine ⟨⟨_, _, _, _, rfl⟩, fun c o z => far6 c o (ne_of_none z hr) (ne_of_none z ne3) (s6 _ _ (s5 _ _ z)), rv ++ [.ref a], ev ++ [.ref b], rs ++ [(ws, e6)], hrL, heL, by rw [List.length_append, lr]; rfl, by rw [List.length_append, le]; rfl, ?_, ?_, ?_, ?_⟩
      · rw [List.map_append]
        refine psnoc (L2.Paired.mapP pr fun _ _ z => z.keep fun c o n1 n2 y => far6 c o n1 n2 (s6 _ _ y)) ⟨a, wv, rfl, nr na, ne na, far6 _ _ (nr na) (ne na) ha, L2.Paired.mapP pw fun _ _ ⟨c, kv, e1, c1, c2, c3, c4⟩ => ⟨c, kv, e1, nr c1, ne c1, nr c2, ne c2, far6 _ _ (nr c1) (ne c1) c3, far6 _ _ (nr c2) (ne c2) c4⟩⟩
      · rw [List.map_append]
        exact psnoc (L2.Paired.mapP pe fun _ _ z => z.keep fun c o n1 n2 y => far6 c o n1 n2 (s6 _ _ y)) ⟨b, rfl, nr nb, ne nb, far6 _ _ (nr nb) (ne nb) hb⟩
      · rw [List.take_add_one, hl]
        exact psnoc pg gd
      · omega
    · rintro σ H5 ⟨⟨x6, x7, x8, x9, rfl⟩, s5, rv, ev, rs, hr5, he5, lr, le, pr, pe, pg, i16⟩
      rw [List.take_length] at pg
      refine ⟨_, rfl, _, rfl, _, rfl, by show 3 ≤ sizeLine; decide, fun p7 hp7 => ?_⟩
      have s7 := Same.upd (o := .tup [.str sg, .ref r, .ref e]) hp7
      exact good sg p7 r e rv ev rs _ hsg m1 i16 (fun b o z => s7 _ _ (s5 _ _ (s13 _ _ z))) pg upd_same (s7 _ _ hr5) (L2.Paired.mapP pr fun _ _ z => z.row.keep s7) (s7 _ _ he5) (L2.Paired.mapP pe fun _ _ z => z.key.keep s7)
end
end Kx

namespace Own
open PySem PySem.Spec L2 PyProof.Rows
/-- str(x), where x's own class says what that is -/
def rStrO (C : Addr) (sp : Sp) (E : XK) : List V → Hp → VK → Prop := fun xs H Q => ∃ a dx fs, xs = [.ref a] ∧ H a = some (.ins C dx fs) ∧ sp [.ref a] H (fun v H' => ∃ y, v = .str y ∧ Q (.str y) H') E
section
variable {X : Cx} {CX : CXT} {n : Nat} {f C : Addr} {fd : FuncData} {ps : List Str} {sp : Sp} {E : XK}
theorem call_strO (F : FnOk X.prog X.w X.K X.mg X.base CX n f fd ps sp) (hs : PySem.W.findIn X.K (.ref C) "__str__" = some (some (.ref f))) (hf : PySem.W.isFn X.K (.ref f) = true)
    (hb : Binds X.K fd ps []) (hx : Passes CX X E) (hr : Room (n + 2) X.A) : CallR X (.type "str") (rStrO C sp E) := by
  intro pins s σ H xs us Q I r h
  obtain ⟨a, dx, fs, rfl, ha, q⟩ := h
  obtain ⟨u, rfl, ru⟩ := vals1 r
  have eu : u = .ref a := ru
  subst eu
  obtain ⟨mA, O, _⟩ := ins_get I.hok ha
  obtain ⟨od, J, _⟩ := O.look
  have hr2 : Room n X.A.in1.in1 := Room.in1 (Room.in1 hr)
  have hl : ([Value.ref a] : List Value).length = ps.length := F.len _ _ _ _ q
  refine PySem.W.kso_call hr2.units0 I.kIn J hs hf ?_
  refine wpAny_call (codeAny_mono (F.run X.A.in1.in1 X.stack s H ⟨[.ref a], []⟩ [.ref a] [.ref a] _ E hr2 I.env0.in1.in1 (hb s [.ref a] I.kIn (by rw [List.append_nil]; exact hl)) (.cons rfl .nil) q) fun r s' hq => ?_)
  cases r with
  | error e => exact hx pins σ H s e s' I hq
  | ok fl =>
    cases fl with
    | ret u =>
      obtain ⟨v, H', I', rz, y, ev, k⟩ := I.after hq
      subst ev
      obtain ⟨t, rfl⟩ := rz
      exact ⟨.str y, H', I', ⟨t, rfl⟩, k⟩
    | next => exact False.elim hq
    | brk => exact False.elim hq
    | cont => exact False.elim hq
end
/-- cls(..), where the i-th slot holds the class at C -/
def tMakeL (i : Nat) (C : Addr) (sp : Sp) (dvs : List V) (E : XK) (t : TA) : TE := fun σ H Q => σ[i]? = some (some (.ref C)) ∧ tMake C sp dvs E t σ H Q
section
variable {X : Cx} {CX : CXT} {k i : Nat} {f C : Addr} {fd : FuncData} {ps : List Str} {sp : Sp} {dvs : List V} {ds : List Value} {E : XK} {x : Str} {p pos : Pos} {e : Expr} {es : List Expr} {t : TA}
theorem pe_makeL (M : Mk X.K C f) (F : FnOk X.prog X.w X.K X.mg X.base CX k f fd ps sp) (hr : Room (k + 1) X.A) (hN : X.N[i]? = some x) (hv : Vis X.env.scope x) (hb : Binds X.K fd ps ds) (hd : Vals dvs ds) (hx : Passes CX X E)
    (ha : PA X (e :: es) t) (hdb : (x == ("__debug__" : Str)) = false := by decide) (hcd : (x == ("__classdict__" : Str)) = false := by decide) (he : starEach (e :: es) X.env = (false, eval e X.env) :: starEach es X.env := by rfl) (hpl : (backTo pos (starEach es X.env)).any (·.1) = false := by rfl) :
    PE X (.Call (.Name x p) (e :: es) [] pos) (tMakeL i C sp dvs E t) := by
  refine ⟨fun pins s σ H Q I h => ?_⟩
  obtain ⟨hs, ht⟩ := h
  refine wpAny_Call_Name_kw (thn ((pe_var (pos := p) hN hv hdb hcd).run pins s σ H (fun v H1 => v = .ref C ∧ H1 = H) I ⟨.ref C, hs, rfl, rfl⟩) fun u s1 ⟨v, H1, I1, r1, q1⟩ => ?_)
  obtain ⟨rfl, rfl⟩ := q1
  cases r1
  refine PySem.W.callWith_K (h₀ := X.base) I.ok.mod.kin M.kp (thn (ha.run pos pins s1 σ _ _ I1 ht) fun us s2 ⟨vs, H2, I2, r, q⟩ => ⟨I2.kIn, ?_⟩) he hpl
  exact run_make M F hr hb hd hx I2 r q
end
end Own

namespace Kx
open PySem L2 Own
abbrev s_Machine___str__ : Stmt := inClass (top 27) 2
/-- zip of two tuples -/
theorem walk_zipT {K : PySem.W.Frag} {a b : Addr} {xs ys : List V} {n : Nat} (hn : n = min xs.length ys.length) : Walk (RZ.ItzT K a b) n (fun H => SqT K H a xs ∧ SqT K H b ys) (YPair (fun i => xs[i]?) (fun i => ys[i]?)) where
  goes := fun i _ hi q => by
    have h1 : i < xs.length := by omega
    have h2 : i < ys.length := by omega
    exact ⟨xs, ys, _, _, q.1, q.2, List.getElem?_eq_getElem h1, List.getElem?_eq_getElem h2⟩
  stops := fun _ q => ⟨xs, ys, q.1, q.2, by omega⟩
  yields := fun i H v H' _ q ⟨T, x, y, e1, e2, e3, e4, e5⟩ => ⟨T, x, y, e1, e2, e3, e4 xs q.1, e5 ys q.2⟩
/-- the first line of a machine's text -/
def headTx (sg : Str) : Str := (Str.empty ++ ("signs " : Str)) ++ sg
/-- all its lines -/
def linesTx (sg : Str) (R : List (List Way)) (Es : List (List Str)) : List Str := headTx sg :: List.zipWith lineTx R Es
/-- the text of a machine -/
def machTx (sg : Str) (R : List (List Way)) (Es : List (List Str)) : Str := Txt.join "\n" (linesTx sg R Es)
/-- tables whose texts are short -/
structure Shr (sg : Str) (R : List (List Way)) (Es : List (List Str)) : Prop where
  four : sg.cps.size ≤ 4
  r16 : R.length ≤ 16
  eq : Es.length = R.length
  line : ∀ q ∈ R, ∀ e ∈ Es, Shrt q e
theorem line_len {q : List Way} {e : List Str} (S : Shrt q e) : (lineTx q e).length ≤ 1000 := Nat.le_trans (join_len _ _) (line_sum S)
theorem head_len {sg : Str} (h : sg.cps.size ≤ 4) : (headTx sg).length ≤ 10 := by
  unfold headTx
  have e : (Str.empty ++ ("signs " : Str) ++ sg).length = 6 + sg.cps.size := by
    show (Str.empty.cps ++ ("signs " : Str).cps ++ sg.cps).size = _
    rw [Array.size_append, Array.size_append]
    rfl
  omega
theorem mem_zipWith {α β γ : Type} {f : α → β → γ} : ∀ {l : List α} {m : List β} {z : γ}, z ∈ List.zipWith f l m → ∃ x ∈ l, ∃ y ∈ m, z = f x y
  | [], _, _, h => by simp at h
  | _ :: _, [], _, h => by simp at h
  | a :: l, b :: m, z, h => by
    rw [List.zipWith_cons_cons] at h
    rcases List.mem_cons.mp h with rfl | h
    · exact ⟨a, List.mem_cons_self, b, List.mem_cons_self, rfl⟩
    · obtain ⟨x, hx, y, hy, e⟩ := mem_zipWith h
      exact ⟨x, List.mem_cons_of_mem _ hx, y, List.mem_cons_of_mem _ hy, e⟩
theorem lines_sum {sg : Str} {R : List (List Way)} {Es : List (List Str)} (S : Shr sg R Es) : ((linesTx sg R Es).map (·.length)).sum + (linesTx sg R Es).length * ("\n" : Str).length ≤ 20000 := by
  have h3 := sum_le 1000 ((List.zipWith lineTx R Es).map (·.length)) fun x hx => by
    obtain ⟨y, hy, rfl⟩ := List.mem_map.mp hx
    obtain ⟨q, hq, e, he, rfl⟩ := mem_zipWith hy
    exact line_len (S.line q hq e he)
  have h4 := head_len S.four
  have l : (List.zipWith lineTx R Es).length = R.length := by rw [List.length_zipWith, S.eq]; omega
  rw [List.length_map, l] at h3
  have e1 : ("\n" : Str).length = 1 := rfl
  have := S.r16
  unfold linesTx
  rw [List.map_cons, List.sum_cons, List.length_cons, e1, l]
  omega
structure TxtMs (K : PySem.W.Frag) (mg : Str → Option Value) (Z : CAd) (f : Addr) (d : FuncData) : Prop where
  s : PySem.W.findIn K (.ref Z.C) "__str__" = some (some (.ref f))
  i : PySem.W.isFn K (.ref f) = true
  F : Fun K "__str__" "Machine.__str__" s_Machine___str__ f d
  b : Binds K d ["self"] []
section
variable {P : Program} {w : World} {K : PySem.W.Frag} {mg : Str → Option Value} {base : Heap} {L : TAd} {B : MAd} {Z : CAd} {f : Addr} {d : FuncData}
/-- str(machine) -/
def spMStr (Z : CAd) : Sp := fun vs H Q _ => ∃ (a : Addr) (sg : Str) (R : List (List Way)) (Es : List (List Str)), vs = [.ref a] ∧ MachAt Z.C H a sg R Es ∧ Shr sg R Es ∧ ∀ H', Same H H' → Q (.str (machTx sg R Es)) H'
abbrev Nstr : List Str := ["self", "lines", "row", "end"]
theorem sc_mstr : FnScope Nstr ["self"] (defScope s_Machine___str__) := ⟨rfl, rfl, rfl, by decide +kernel, rfl, by decide +kernel, by decide +kernel⟩
theorem ok_mstr (TM : TxtM K mg B) (TT : TxtT K mg L) (TC : TxtC K mg Z) (TS : TxtMs K mg Z f d) : FnOk P w K mg base CX0 2 f d ["self"] (spMStr Z) := by
  have sc := sc_mstr
  have G_line : FnOk P w K mg base CX0 1 L.fl L.dl ["ways", "end"] spLine := ok_line TT
  refine TS.F.ok sc (fun vs H Q E h => ?_) (fun cdv A1 outer s0 H vs Q E hr h => ?_)
  · obtain ⟨_, _, _, _, rfl, _⟩ := h; rfl
  · obtain ⟨a, sg, R, Es, rfl, hm, S, k⟩ := h
    obtain ⟨dx, r, e, k0, w5, rv, ev, wv, hm0, hr0, pr, he0, pe, hk0, hw0, pw⟩ := hm
    refine ⟨_, (pss_cons (ps_setLc (i := 1) (own := [("row", 2), ("end", 3)]) (g := gTup K 2 (gCons (gName 2) (gCons (gName 3) gNil))) (tt := tYes) (te := tCall spLine [] E0 (tCons (tVar 2) (tCons (tVar 3) tNil))) rfl sc.nd rfl rfl (sw_true rfl rfl rfl (by decide +kernel)) (RZ.pi_zipA (by rfl) TM.n_zip (pa_cons (pe_fld (pv 0) rfl) (pa_cons (pe_fld (pv 0) rfl) pa_nil))) (blkOk_by (N := Nstr) (sc := defScope s_Machine___str__) (own := [("row", 2), ("end", 3)]) (by decide +kernel))
        (fun _ _ _ _ _ => (pg_tup rfl (pgs_cons (pg_name (i := 2) sc.nd rfl (Or.inl rfl)) (pgs_cons (pg_name (i := 3) sc.nd rfl (Or.inl rfl)) pgs_nil)))) (fun _ _ _ _ _ => pts_nil)
        (fun _ _ _ _ _ => pe_call G_line (hr.mono (by decide)) rfl TT.D_state_line.g TT.D_state_line.F.kp TT.D_state_line.b .nil pass0 (pa_cons (pv 2) (pa_cons (pv 3) pa_nil))))
      (pss_one (ps_ret (pe_join pe_str (pe_lst (pa_cons (pe_joined (.cons pe_str (.cons (pe_fmt (pe_fld (pv 0) rfl)) .nil))) (StX.pa_star (pv 1) pa_nil))))))), ?_⟩
    have lr : rv.length = R.length := Paired.length pr
    have le : ev.length = Es.length := Paired.length pe
    have lz : (List.zipWith lineTx R Es).length = R.length := by rw [List.length_zipWith, S.eq]; omega
    have r16 := S.r16
    refine ⟨_, rfl, a, Z.C, dx, _, _, rfl, hm0, TC.cl, TC.a2, rfl, _, rfl, a, Z.C, dx, _, _, rfl, hm0, TC.cl, TC.a3, rfl, r, e, rv, ev, rfl, .inr ⟨SqT.of hr0, SqT.of he0, fun D hD => ?_⟩⟩
    refine lcs_it [some (.ref a), none, none, none] rfl (walk_zipT (n := R.length) (by rw [lr, le, S.eq]; omega)) (fun i H' => Same H H' ∧ H' D = some (.lst (((List.zipWith lineTx R Es).take i).map V.str))) ⟨Same.upd hD, upd_same⟩ (fun i H' _ z => ⟨SqT.of (z.1 _ _ hr0), SqT.of (z.1 _ _ he0)⟩) ?_ ?_
    · rintro i x _ H2 hi ⟨s2, h2⟩ ⟨T, u, v, rfl, hT, rfl, hu, hv⟩
      obtain ⟨q, hq, c, wv', rfl, hc, pq⟩ := pat pr hu
      obtain ⟨e1, he1, kv, rfl, hkv⟩ := pat pe hv
      have s3 := Same.upd (o := .tup [.ref c, .ref kv]) hT
      have eL : (List.zipWith lineTx R Es)[i]? = some (lineTx q e1) := by rw [List.getElem?_zipWith, hq, he1]
      refine ⟨T, _, rfl, SqT.of upd_same, rfl, _, _, rfl, _, _, rfl, rfl, rfl, ?_⟩
      refine ⟨_, rfl, _, rfl, c, kv, wv', q, e1, rfl, s3 _ _ (s2 _ _ hc), L2.Paired.mapP pq fun _ _ z => z.keep fun b xs y => s3 _ _ (s2 _ _ y), s3 _ _ (s2 _ _ hkv), S.line q (List.mem_of_getElem? hq) e1 (List.mem_of_getElem? he1), fun H3 s4 => ?_⟩
      refine ⟨_, s4 _ _ (s3 _ _ h2), ?_, fun b' o z => ?_, ?_⟩
      · rw [List.length_map, List.length_take, sizeLine_eq]
        omega
      · rw [upd_ne (ne_of_none z hD)]
        exact s4 _ _ (s3 _ _ (s2 _ _ z))
      · rw [upd_same, List.take_add_one, eL, List.map_append]
        rfl
    · rintro H2 ⟨s2, h2⟩
      rw [← lz, List.take_length] at h2
      have hm2 := s2 _ _ hm0
      have l6 : (Str.empty ++ ("signs " : Str)).length ≤ sizeLine := by decide +kernel
      refine ⟨⟨_, rfl⟩, _, rfl, l6, _, rfl, a, Z.C, dx, _, _, rfl, hm2, TC.cl, TC.a1, rfl, .inl ⟨sg, rfl, Nat.le_trans S.four (by decide), sg, rfl, Nat.le_trans (head_len S.four) (by decide), ?_⟩⟩
      refine ⟨_, rfl, D, _, rfl, .inr (SqL.of h2), ?_, fun p hp => ?_⟩
      · show ((List.zipWith lineTx R Es).map V.str ++ []).length + 1 ≤ sizeLine
        rw [List.append_nil, List.length_map, lz, sizeLine_eq]
        omega
      have h3 : (upd H2 p (.lst (V.str (headTx sg) :: ((List.zipWith lineTx R Es).map V.str ++ [])))) p = some (.lst ((linesTx sg R Es).map V.str)) := by
        rw [upd_same, List.append_nil]
        rfl
      refine ⟨"\n", p, linesTx sg R Es, rfl, rfl, .inl (SqL.of h3), Nat.le_trans (lines_sum S) (by decide), ?_⟩
      exact k _ fun b' o z => Same.upd hp _ _ (s2 _ _ z)
end
end Kx

namespace Kx
open PySem L2 Own
abbrev s__law_signs : Stmt := top 34
abbrev s__law_keys : Stmt := top 35
abbrev s__law_tables : Stmt := top 36
structure LAd where
  f1 : Addr
  f2 : Addr
  f3 : Addr
  d1 : FuncData
  d2 : FuncData
  d3 : FuncData
  p1 : Addr
  p2 : Addr
  p3 : Addr
  q1 : FuncData
  q2 : FuncData
  q3 : FuncData
structure TxtL (K : PySem.W.Frag) (mg : Str → Option Value) (L : LAd) : Prop where
  pen : TxtP K mg L.p1 L.p2 L.p3 L.q1 L.q2 L.q3
  D__law_signs : DefT K mg "_law_signs" "_law_signs" s__law_signs ["pen", "many"] L.f1 L.d1
  D__law_keys : DefT K mg "_law_keys" "_law_keys" s__law_keys ["pen", "words"] L.f2 L.d2
  D__law_tables : DefT K mg "_law_tables" "_law_tables" s__law_tables ["pen", "signs", "most", "words"] L.f3 L.d3
  n_len : mg "len" = none
  n_range : mg "range" = none
  n_set : mg "set" = none
  n_sorted : mg "sorted" = none
section
variable {P : Program} {w : World} {K : PySem.W.Frag} {mg : Str → Option Value} {base : Heap} {L : LAd}
def alpha : List Nat := (List.range 26).map (97 + ·)
def spSigns : Sp := fun vs H Q _ => ∃ (p c : Addr) (many n : Nat), vs = [.ref p, .int many] ∧ PenAt H p c n ∧ n + many ≤ 1000000 ∧ many ≤ 26 ∧
  ∀ (sg : Str) H', sg.cps.size = many → sg.cps.toList.Nodup → (∀ c ∈ sg.cps.toList, c ∈ alpha) → PenAt H' p c (n + many) → SameBut p H H' → Q (.str sg) H'
theorem sc_signs : FnScope ["pen", "many", "left", "found", "turn", "at"] ["pen", "many"] (defScope s__law_signs) := ⟨rfl, rfl, rfl, by decide +kernel, rfl, by decide +kernel, by decide +kernel⟩
theorem ok_signs (T : TxtL K mg L) : FnOk P w K mg base CX0 2 L.f1 L.d1 ["pen", "many"] spSigns := by
  have sc := sc_signs
  have G_draw : FnOk P w K mg base CX0 1 L.p2 L.q2 ["pen", "many"] spDraw := ok_draw T.pen
  refine T.D__law_signs.F.ok sc (fun vs H Q E h => ?_) (fun cdv A1 outer s H vs Q E hr h => ?_)
  · obtain ⟨_, _, _, _, rfl, _⟩ := h; rfl
  · obtain ⟨p, pc, many, n, rfl, hp, hn, h26, k⟩ := h
    refine ⟨_, (pss_cons (ps_asg (pe_tup (pa_cons pe_str (pa_cons pe_str pa_nil))) (pg_tup rfl (pgs_cons (pg_name (i := 2) sc.nd rfl (Or.inl rfl)) (pgs_cons (pg_name (i := 3) sc.nd rfl (Or.inl rfl)) pgs_nil))))
      (pss_cons (ps_for PassesOwn.never rfl (pi_range1 rfl T.n_range (pa_cons (pv 1) pa_nil)) (pg_name (i := 4) sc.nd rfl (Or.inl rfl))
        (pss_cons (ps_set (i := 5) sc.nd rfl (Or.inl rfl) (pe_call G_draw (hr.mono (by decide)) rfl T.pen.D__law_draw.g T.pen.D__law_draw.F.kp T.pen.D__law_draw.b .nil pass0 (pa_cons (pv 0) (pa_cons (pe_callB call_len (by rfl) T.n_len (by decide +kernel) (pa_cons (pv 2) pa_nil)) pa_nil))))
        (pss_one (ps_par (i := 3) (j := 2) rfl sc.nd rfl rfl (by decide) rfl rfl (pa_cons (pe_op op_add_str (pv 3) (pe_ix ix_str (pv 2) (pv 5) (fun _ _ => rfl))) (pa_cons (pe_op op_add_str (pe_slice sl_str (pv 2) po_none (po_some (pv 5))) (pe_slice sl_str (pv 2) (po_some (pe_op op_add (pv 5) pe_int)) po_none)) pa_nil)) rfl))))
      (pss_one (ps_ret (pv 3))))), ?_⟩
    have lt26 : alpha.length = 26 := rfl
    refine ⟨by show 2 ≤ sizeLine; decide, fun t0 ht0 => ⟨t0, _, rfl, SqT.of upd_same, rfl, _, _, rfl, _, _, rfl, rfl, ?_⟩⟩
    have hp0 : PenAt (upd H t0 (.tup [.str "abcdefghijklmnopqrstuvwxyz", .str ""])) p pc n := hp.keep (Same.upd ht0)
    have sb0 : SameBut p H (upd H t0 (.tup [.str "abcdefghijklmnopqrstuvwxyz", .str ""])) := .new ht0
    generalize upd H t0 (.tup [.str "abcdefghijklmnopqrstuvwxyz", .str ""]) = H0 at hp0 sb0 ⊢
    refine ⟨_, rfl, many, rfl, by omega, by omega, ?_⟩
    rw [Int.toNat_natCast]
    refine for_it walk_range (fun i σ H' => ∃ x4 x5, ∃ l f : Str, σ = [some (.ref p), some (.int many), some (.str l), some (.str f), x4, x5] ∧ PenAt H' p pc (n + i) ∧ SameBut p H H' ∧ (f.cps.toList ++ l.cps.toList).Perm alpha ∧ f.cps.size = i)
      ⟨_, _, _, _, rfl, hp0, sb0, by decide +kernel, rfl⟩ (fun _ _ _ _ _ => trivial) ?_ ?_
    · rintro i x σ _ H1 hi ⟨x4, x5, l, f, rfl, hp1, sb1, pm, fz⟩ ⟨rfl, rfl⟩
      have hlen : f.cps.size + l.cps.size = 26 := by
        have e := pm.length_eq
        rw [List.length_append, Array.length_toList, Array.length_toList] at e
        exact e
      have ll : l.length = l.cps.size := rfl
      have fl : f.length = f.cps.size := rfl
      refine ⟨_, rfl, _, rfl, .str l, l.length, rfl, ⟨by rw [sizeLine_eq]; omega, rfl⟩, p, pc, _, n + i, rfl, hp1, by omega, by omega, by omega, fun at1 H2 r0 r1 hp2 sb2 => ?_⟩
      obtain ⟨j, rfl⟩ := Int.eq_ofNat_of_zero_le r0
      have jl : j < l.cps.toList.length := by rw [Array.length_toList]; omega
      have hc : l.cps.toList[j]? = some l.cps.toList[j] := List.getElem?_eq_getElem jl
      generalize l.cps.toList[j] = c at hc
      refine ⟨_, rfl, _, rfl, _, rfl, l, _, c, rfl, rfl, by rw [sizeLine_eq]; omega, atI_nat hc, f, ⟨#[c]⟩, rfl, rfl, ?_, ?_⟩
      · show f.length + 1 ≤ sizeLine
        rw [sizeLine_eq]; omega
      refine ⟨_, rfl, _, rfl, _, rfl, l, rfl, by rw [sizeLine_eq]; omega, ?_⟩
      have e1 : cutS l none (some ((j : Nat) : Int)) = ⟨(l.cps.toList.take j).toArray⟩ := by
        unfold cutS
        rw [HT.sIx_none, HT.sIx_nat]
        have : min j l.length = j := by omega
        rw [this]
        simp
      have e2 : cutS l (some (((j : Nat) : Int) + 1)) none = ⟨(l.cps.toList.drop (j + 1)).toArray⟩ := by
        unfold cutS
        rw [show ((j : Nat) : Int) + 1 = ((j + 1 : Nat) : Int) from rfl, HT.sIx_none, HT.sIx_nat]
        have : min (j + 1) l.length = j + 1 := by omega
        rw [this, List.take_of_length_le]
        rw [List.length_drop, Array.length_toList]
        omega
      refine ⟨_, rfl, _, rfl, _, _, rfl, rfl, _, rfl, l, rfl, by rw [sizeLine_eq]; omega, _, _, rfl, rfl, ?_, _, _, rfl, ?_⟩
      · show (cutS l none (some ((j : Nat) : Int))).length + (cutS l (some (((j : Nat) : Int) + 1)) none).length ≤ sizeLine
        rw [e1, e2]
        show (l.cps.toList.take j).toArray.size + (l.cps.toList.drop (j + 1)).toArray.size ≤ sizeLine
        rw [List.size_toArray, List.size_toArray, List.length_take, List.length_drop, Array.length_toList, sizeLine_eq]
        omega
      · refine ⟨_, _, _, _, rfl, hp2, sb1.trans sb2, ?_, ?_⟩
        · show ((f.cps ++ #[c]).toList ++ ((cutS l none (some ((j : Nat) : Int))).cps ++ (cutS l (some (((j : Nat) : Int) + 1)) none).cps).toList).Perm alpha
          rw [e1, e2]
          refine List.Perm.trans ?_ pm
          have sp : l.cps.toList = l.cps.toList.take j ++ c :: l.cps.toList.drop (j + 1) := by
            have h1 := List.take_append_drop j l.cps.toList
            obtain ⟨hj, ec⟩ := List.getElem?_eq_some_iff.mp hc
            rw [List.drop_eq_getElem_cons hj, ec] at h1
            exact h1.symm
          have lhs : ((f.cps ++ #[c]).toList ++ ((⟨(l.cps.toList.take j).toArray⟩ : Str).cps ++ (⟨(l.cps.toList.drop (j + 1)).toArray⟩ : Str).cps).toList) = f.cps.toList ++ (c :: (l.cps.toList.take j ++ l.cps.toList.drop (j + 1))) := by simp
          rw [lhs]
          refine List.Perm.append_left _ ?_
          refine List.Perm.trans ?_ (List.Perm.of_eq sp.symm)
          exact List.perm_middle.symm
        · show (f.cps ++ #[c]).size = i + 1
          rw [Array.size_append, fz]
          rfl
    · rintro σ H1 ⟨x4, x5, l, f, rfl, hp1, sb1, pm, fz⟩
      refine ⟨_, rfl, k f H1 fz ?_ (fun c hc => pm.mem_iff.mp (List.mem_append_left _ hc)) hp1 sb1⟩
      have nd : (f.cps.toList ++ l.cps.toList).Nodup := pm.nodup_iff.mpr (by decide +kernel)
      exact (List.nodup_append.mp nd).1
end
end Kx

namespace Kx
open PySem L2 Own
section
variable {P : Program} {w : World} {K : PySem.W.Frag} {mg : Str → Option Value} {base : Heap} {L : LAd}
/-- up to two of the words, each once, in their order -/
def spKeys : Sp := fun vs H Q _ => ∃ (p c q : Addr) (n : Nat) (ws : List Str), vs = [.ref p, .ref q] ∧ PenAt H p c n ∧ n + 3 ≤ 1000000 ∧ H q = some (.lst (ws.map V.str)) ∧ 0 < ws.length ∧ ws.length ≤ 1000 ∧
  ∀ (t : Addr) (ks : List Str) (H' : Hp), H t = none → H' t = some (.lst (ks.map V.str)) → (∀ y ∈ ks, y ∈ ws) → ks.length ≤ 2 → kl ks = ks → PenAt H' p c (n + 3) → SameBut p H H' → Q (.ref t) H'
theorem sc_keys : FnScope ["pen", "words", "many", "k"] ["pen", "words"] (defScope s__law_keys) := ⟨rfl, rfl, rfl, by decide +kernel, rfl, by decide +kernel, by decide +kernel⟩
theorem ok_keys (T : TxtL K mg L) : FnOk P w K mg base CX0 3 L.f2 L.d2 ["pen", "words"] spKeys := by
  have sc := sc_keys
  have G_pick : FnOk P w K mg base CX0 2 L.p3 L.q3 ["pen", "items"] spPick := ok_pick T.pen
  refine T.D__law_keys.F.ok sc (fun vs H Q E h => ?_) (fun cdv A1 outer s H vs Q E hr h => ?_)
  · obtain ⟨_, _, _, _, _, rfl, _⟩ := h; rfl
  · obtain ⟨p, c, q, n, ws, rfl, hp, hn, hq, w0, w1, k⟩ := h
    refine ⟨_, (pss_cons (ps_set (i := 2) sc.nd rfl (Or.inl rfl) (pe_call G_pick (hr.mono (by decide)) rfl T.pen.D__law_pick.g T.pen.D__law_pick.F.kp T.pen.D__law_pick.b .nil pass0 (pa_cons (pv 0) (pa_cons (pe_lst (pa_cons pe_int (pa_cons pe_int (pa_cons pe_int (pa_cons pe_int (pa_cons pe_int (pa_cons pe_int pa_nil))))))) pa_nil))))
      (pss_one (ps_ret (pe_callB (cr_sortT rfl) (by rfl) T.n_sorted (by decide +kernel) (pa_cons (pe_callTy (cr_setT rfl) (by rfl) T.n_set (by decide +kernel) (pa_cons
        (pe_lc (own := [("k", 3)]) (g := gName 3) (tt := tYes) rfl sc.nd (pi_range1 rfl T.n_range (pa_cons (pv 2) pa_nil)) (blkOk_by (N := ["pen", "words", "many", "k"]) (sc := defScope s__law_keys) (own := [("k", 3)]) (by decide +kernel)) (fun _ _ _ _ _ => (pg_name (i := 3) sc.nd rfl (Or.inl rfl))) (fun _ _ _ _ _ => pts_nil)
          (fun _ _ _ _ _ => pe_call G_pick (hr.mono (by decide)) rfl T.pen.D__law_pick.g T.pen.D__law_pick.F.kp T.pen.D__law_pick.b .nil pass0 (pa_cons (pv 0) (pa_cons (pv 1) pa_nil)))) pa_nil)) pa_nil))))), ?_⟩
    refine ⟨_, rfl, by show 6 ≤ sizeLine; decide, fun l0 hl0 => ?_⟩
    have s0 : Same H (upd H l0 (.lst [.int 0, .int 0, .int 0, .int 1, .int 1, .int 2])) := Same.upd hl0
    have i0 : (upd H l0 (.lst [.int 0, .int 0, .int 0, .int 1, .int 1, .int 2])) l0 = some (.lst [.int 0, .int 0, .int 0, .int 1, .int 1, .int 2]) := upd_same
    generalize upd H l0 (.lst [.int 0, .int 0, .int 0, .int 1, .int 1, .int 2]) = H0 at s0 i0 ⊢
    refine ⟨p, c, l0, _, n, rfl, hp.keep s0, by omega, i0, by show 0 < 6; decide, by show 6 ≤ 1000000; decide, fun v i H1 hv hp1 sb1 => ?_⟩
    obtain ⟨m, m2, rfl⟩ : ∃ m : Nat, m ≤ 2 ∧ v = .int m := by
      have hi : i < 6 := (List.getElem?_eq_some_iff.mp hv).1
      match i, hi, hv with
      | 0, _, hv => exact ⟨0, by omega, (Option.some.inj hv).symm⟩
      | 1, _, hv => exact ⟨0, by omega, (Option.some.inj hv).symm⟩
      | 2, _, hv => exact ⟨0, by omega, (Option.some.inj hv).symm⟩
      | 3, _, hv => exact ⟨1, by omega, (Option.some.inj hv).symm⟩
      | 4, _, hv => exact ⟨1, by omega, (Option.some.inj hv).symm⟩
      | 5, _, hv => exact ⟨2, by omega, (Option.some.inj hv).symm⟩
    have sbH : SameBut p H H1 := (SameBut.of s0).trans sb1
    have nq : q ≠ p := hp.ne hq
    -- the display
    refine ⟨_, rfl, m, rfl, by omega, by omega, fun D hD => ?_⟩
    rw [Int.toNat_natCast]
    refine lcs_it [some (.ref p), some (.ref q), some (.int m), none] rfl walk_range (fun i H' => PenAt H' p c (n + 1 + i) ∧ SameBut p H H' ∧ ∃ xs : List Str, H' D = some (.lst (xs.map V.str)) ∧ xs.length = i ∧ ∀ y ∈ xs, y ∈ ws) ?_ (fun _ _ _ _ => trivial) ?_ ?_
    · exact ⟨hp1.keep (Same.upd hD), sbH.trans (.new hD), [], upd_same, rfl, fun y hy => nomatch hy⟩
    · rintro i x _ H2 hi ⟨hp2, sb2, xs, hxs, hl, hw⟩ ⟨rfl, rfl⟩
      have ap := hp1.apart hD
      have mw : (ws.map V.str).length = ws.length := List.length_map ..
      refine ⟨rfl, _, rfl, _, rfl, p, c, q, ws.map V.str, n + 1 + i, rfl, hp2, by omega, sb2 _ _ hq nq, by omega, by omega, fun v j H3 hv hp3 sb3 => ?_⟩
      rw [List.getElem?_map] at hv
      obtain ⟨y, hy, rfl⟩ := Option.map_eq_some_iff.mp hv
      have hD3 := sb3 _ _ hxs ap.1
      refine ⟨xs.map V.str, hD3, ?_, hp3.put ap.1 ap.2, fun b o e nb => ?_, xs ++ [y], by rw [upd_same, List.map_append]; rfl, by rw [List.length_append, hl]; rfl, fun z hz => ?_⟩
      · rw [List.length_map, sizeLine_eq]; omega
      · have nD : b ≠ D := ne_of_none (sbH _ _ e nb) hD
        rw [upd_ne nD]
        exact sb3 _ _ (sb2 _ _ e nb) nb
      · rcases List.mem_append.mp hz with hz | hz
        · exact hw z hz
        · rw [List.mem_singleton.mp hz]
          exact List.mem_of_getElem? hy
    · rintro H2 ⟨hp2, sb2, xs, hxs, hl, hw⟩
      refine ⟨.ref D, xs, rfl, .list (SqL.of hxs), by unfold scanBound; omega, fun s3 l hs3 nd hm ln => ?_⟩
      refine ⟨s3, l, rfl, upd_same, by unfold scanBound; omega, fun t ys ht pm so => ?_⟩
      have ek := kl_of pm so nd hm
      have s2 : Same H2 (upd (upd H2 s3 (SetT P w s3 l)) t (.lst (ys.map V.str))) := fun b o e => Same.upd ht _ _ (Same.upd hs3 _ _ e)
      refine k t ys _ ?_ upd_same (fun y hy => hw y ((hm y).mp (pm.mem_iff.mp hy))) ?_ ?_ ((hp2.keep s2).mono (by omega)) (sb2.trans (.of s2))
      · cases e : H t with
        | none => rfl
        | some o =>
          have ht2 : H2 t = none := (Same.upd hs3).free ht
          by_cases tp : t = p
          · obtain ⟨_, _, _, h1, _⟩ := hp2
            rw [tp, h1] at ht2
            cases ht2
          · have := sb2 _ _ e tp
            rw [this] at ht2
            cases ht2
      · rw [pm.length_eq]; omega
      · rw [ek]; exact kl_kl _
end
end Kx

namespace Kx
open PySem L2 Own
/-- drawn keys: words, each once, in order, at most two -/
def KeyOk (ws ks : List Str) : Prop := (∀ y ∈ ks, y ∈ ws) ∧ ks.length ≤ 2 ∧ kl ks = ks
/-- objects of H that G had not -/
def WayN (G H : Hp) (v : V) (w : Way) : Prop := ∃ a kv, v = .ref a ∧ H a = some (.tup [.int w.1, .ref kv]) ∧ H kv = some (.lst (w.2.map V.str)) ∧ G a = none ∧ G kv = none
def RowN (G H : Hp) (v : V) (r : List Way) : Prop := ∃ a vs, v = .ref a ∧ H a = some (.lst vs) ∧ G a = none ∧ Paired (WayN G H) vs r
def KeyN (G H : Hp) (v : V) (ks : List Str) : Prop := ∃ a, v = .ref a ∧ H a = some (.lst (ks.map V.str)) ∧ G a = none
def Nk (G H H' : Hp) : Prop := ∀ b o, H b = some o → G b = none → H' b = some o
theorem WayN.keep {G G' H H' : Hp} (k : Nk G H H') (g : ∀ b, G b = none → G' b = none) {v : V} {w : Way} (h : WayN G H v w) : WayN G' H' v w := by
  obtain ⟨a, kv, e, h1, h2, g1, g2⟩ := h
  exact ⟨a, kv, e, k _ _ h1 g1, k _ _ h2 g2, g _ g1, g _ g2⟩
theorem RowN.keep {G G' H H' : Hp} (k : Nk G H H') (g : ∀ b, G b = none → G' b = none) {v : V} {r : List Way} (h : RowN G H v r) : RowN G' H' v r := by
  obtain ⟨a, vs, e, h1, g1, pr⟩ := h
  exact ⟨a, vs, e, k _ _ h1 g1, g _ g1, L2.Paired.mapP pr fun _ _ z => z.keep k g⟩
theorem KeyN.keep {G G' H H' : Hp} (k : Nk G H H') (g : ∀ b, G b = none → G' b = none) {v : V} {ks : List Str} (h : KeyN G H v ks) : KeyN G' H' v ks := by
  obtain ⟨a, e, h1, g1⟩ := h
  exact ⟨a, e, k _ _ h1 g1, g _ g1⟩
def GoodW (many : Int) (ws : List Str) (w : Way) : Prop := 0 ≤ w.1 ∧ w.1 < many ∧ KeyOk ws w.2
theorem PenAt.some {H : Hp} {p c : Addr} {n : Nat} (h : PenAt H p c n) : ∃ o, H p = some o := by
  obtain ⟨_, _, _, h1, _⟩ := h
  exact ⟨_, h1⟩
/-- what is not there now was not there -/
theorem none_back {H H' : Hp} {p c : Addr} {n : Nat} (s : SameBut p H H') (hp : PenAt H' p c n) {b : Addr} (e : H' b = none) : H b = none := by
  cases h : H b with
  | none => rfl
  | some o =>
    by_cases z : b = p
    · obtain ⟨o', h'⟩ := hp.some
      rw [z, h'] at e
      cases e
    · rw [s _ _ h z] at e
      cases e
def rowTe : TE := tLc (iStr (tVar 1)) (gName 7) tYes (tTup (tCons (tCall spDraw [] E0 (tCons (tVar 0) (tCons (tVar 4) tNil))) (tCons (tCall spKeys [] E0 (tCons (tVar 0) (tCons (tVar 3) tNil))) tNil))) [7]
theorem row_drawn {H : Hp} {p c q : Addr} {n : Nat} {sg : Str} {v2 v6 : V} {many : Int} {ws : List Str} {Q : VK} (hp : PenAt H p c n) (hn : n + 4 * sg.cps.size ≤ 1000000) (zg : sg.cps.size ≤ 1000) (hq : H q = some (.lst (ws.map V.str))) (w0 : 0 < ws.length) (w1 : ws.length ≤ 1000) (m0 : 0 < many) (m1 : many < 1000)
    (k : ∀ (t : Addr) (r : List Way) (H' : Hp), RowN H H' (.ref t) r → r.length = sg.cps.size → (∀ w ∈ r, GoodW many ws w) → PenAt H' p c (n + 4 * sg.cps.size) → SameBut p H H' → Q (.ref t) H') :
    rowTe [some (.ref p), some (.str sg), some v2, some (.ref q), some (.int many), none, some v6, none] H Q := by
  refine ⟨_, rfl, sg, rfl, fun D hD => ?_⟩
  have ap := hp.apart hD
  have nq : q ≠ p := hp.ne hq
  have gD : (upd H D (.lst [])) D = some (.lst []) := upd_same
  have gH : ∀ b, (upd H D (.lst [])) b = none → H b = none ∧ b ≠ D := fun b e => by
    have nb : b ≠ D := fun z => by rw [z, gD] at e; cases e
    exact ⟨by rw [upd_ne nb] at e; exact e, nb⟩
  have gU : ∀ b, H b = none → b ≠ D → (upd H D (.lst [])) b = none := fun b e nb => by rw [upd_ne nb]; exact e
  refine lcs_it [some (.ref p), some (.str sg), some v2, some (.ref q), some (.int many), none, some v6, none] rfl walk_str
    (fun j H' => PenAt H' p c (n + 4 * j) ∧ SameBut p H H' ∧ ∃ (acc : List V) (r : List Way), H' D = some (.lst acc) ∧ acc.length = j ∧ Paired (WayN (upd H D (.lst [])) H') acc r ∧ ∀ w ∈ r, GoodW many ws w)
    ⟨hp.keep (Same.upd hD), .new hD, [], [], upd_same, rfl, .nil, fun w hw => nomatch hw⟩ (fun _ _ _ _ => trivial) ?_ ?_
  · rintro j x _ H1 hj ⟨hp1, sb1, acc, r, hacc, hl, pa, gd⟩ ⟨rfl, ch, hc, rfl⟩
    refine ⟨rfl, _, rfl, _, rfl, p, c, many, n + 4 * j, rfl, hp1, by omega, m0, by omega, fun to H2 t0 t1 hp2 sb2 => ?_⟩
    have q2 := sb2 _ _ (sb1 _ _ hq nq) nq
    refine ⟨_, rfl, _, rfl, p, c, q, n + 4 * j + 1, ws, rfl, hp2, by omega, q2, w0, w1, fun t ks H3 ht h3 hm hk2 hkk hp3 sb3 => ?_⟩
    refine ⟨by show 2 ≤ sizeLine; decide, fun a ha => ?_⟩
    have D1 := sb2 _ _ hacc ap.1
    have D3 := sb3 _ _ D1 ap.1
    have nta : t ≠ a := ne_of_none h3 ha
    have ntD : t ≠ D := fun z => by rw [z, D1] at ht; cases ht
    have naD : a ≠ D := fun z => by rw [z, D3] at ha; cases ha
    have apa := hp3.apart ha
    have s13 : SameBut p H H3 := (sb1.trans sb2).trans sb3
    have Ha : H a = none := none_back s13 hp3 ha
    have Ht : H t = none := none_back (sb1.trans sb2) hp2 ht
    refine ⟨acc, by rw [upd_ne naD.symm]; exact D3, by rw [hl, sizeLine_eq]; omega, ((hp3.put apa.1 apa.2).put ap.1 ap.2).mono (by omega), fun b o e nb => ?_, acc ++ [.ref a], r ++ [(to, ks)], upd_same, by rw [List.length_append, hl]; rfl, ?_, fun w hw => ?_⟩
    · have nD : b ≠ D := ne_of_none e hD
      have na : b ≠ a := ne_of_none e Ha
      rw [upd_ne nD, upd_ne na]
      exact s13 _ _ e nb
    · refine psnoc (L2.Paired.mapP pa fun _ _ z => z.keep (fun b o e g => ?_) fun _ g => g) ⟨a, t, rfl, by rw [upd_ne naD, upd_same], by rw [upd_ne ntD, upd_ne nta]; exact h3, gU _ Ha naD, gU _ Ht ntD⟩
      obtain ⟨g1, nD⟩ := gH b g
      have np : b ≠ p := fun z => by
        obtain ⟨o', h'⟩ := hp.some
        rw [z, h'] at g1
        cases g1
      have e3 := sb3 _ _ (sb2 _ _ e np) np
      rw [upd_ne nD, upd_ne (ne_of_none e3 ha)]
      exact e3
    · rcases List.mem_append.mp hw with hw | hw
      · exact gd w hw
      · rw [List.mem_singleton.mp hw]
        exact ⟨t0, t1, hm, hk2, hkk⟩
  · rintro H1 ⟨hp1, sb1, acc, r, hacc, hl, pa, gd⟩
    refine k D r H1 ⟨D, acc, rfl, hacc, hD, L2.Paired.mapP pa fun _ _ z => z.keep (fun _ _ e _ => e) fun b g => (gH b g).1⟩ ?_ gd hp1 sb1
    rw [← Paired.length pa, hl]
section
variable {P : Program} {w : World} {K : PySem.W.Frag} {mg : Str → Option Value} {base : Heap} {L : LAd}
def spTables : Sp := fun vs H Q _ => ∃ (p c q : Addr) (sg : Str) (most n : Nat) (ws : List Str), vs = [.ref p, .str sg, .int most, .ref q] ∧ PenAt H p c n ∧ n + 400 ≤ 1000000 ∧ sg.cps.size ≤ 4 ∧ 0 < most ∧ most ≤ 16 ∧ H q = some (.lst (ws.map V.str)) ∧ 0 < ws.length ∧ ws.length ≤ 1000 ∧
  ∀ (t r e : Addr) (rv ev : List V) (R : List (List Way)) (Es : List (List Str)) (many : Nat) (H' : Hp), 0 < many → many ≤ most → H' t = some (.tup [.ref r, .ref e]) → H' r = some (.lst rv) → Paired (RowN H H') rv R → H' e = some (.lst ev) → Paired (KeyN H H') ev Es → R.length = many → Es.length = many →
    (∀ row ∈ R, row.length = sg.cps.size ∧ ∀ w ∈ row, GoodW many ws w) → (∀ ks ∈ Es, KeyOk ws ks) → H t = none → H r = none → H e = none → PenAt H' p c (n + 400) → SameBut p H H' → Q (.ref t) H'
theorem sc_tables : FnScope ["pen", "signs", "most", "words", "many", "rows", "state", "sign"] ["pen", "signs", "most", "words"] (defScope s__law_tables) := ⟨rfl, rfl, rfl, by decide +kernel, rfl, by decide +kernel, by decide +kernel⟩
theorem ok_tables (T : TxtL K mg L) : FnOk P w K mg base CX0 4 L.f3 L.d3 ["pen", "signs", "most", "words"] spTables := by
  have sc := sc_tables
  have G_draw : FnOk P w K mg base CX0 1 L.p2 L.q2 ["pen", "many"] spDraw := ok_draw T.pen
  have G_keys : FnOk P w K mg base CX0 3 L.f2 L.d2 ["pen", "words"] spKeys := ok_keys T
  refine T.D__law_tables.F.ok sc (fun vs H Q E h => ?_) (fun cdv A1 outer s H vs Q E hr h => ?_)
  · obtain ⟨_, _, _, _, _, _, _, rfl, _⟩ := h; rfl
  · obtain ⟨p, c, q, sg, most, n, ws, rfl, hp, hn, z4, o0, o16, hq, w0, w1, k⟩ := h
    refine ⟨_, (pss_cons (ps_set (i := 4) sc.nd rfl (Or.inr rfl) (pe_op op_add pe_int (pe_call G_draw (hr.mono (by decide)) rfl T.pen.D__law_draw.g T.pen.D__law_draw.F.kp T.pen.D__law_draw.b .nil pass0 (pa_cons (pv 0) (pa_cons (pv 2) pa_nil)))))
      (pss_cons (ps_setLc (i := 5) (own := [("state", 6)]) (g := gName 6) (tt := tYes) (te := rowTe) rfl sc.nd rfl rfl (sw_true rfl rfl rfl (by decide +kernel)) (pi_range1 rfl T.n_range (pa_cons (pv 4) pa_nil)) (blkOk_by (N := ["pen", "signs", "most", "words", "many", "rows", "state", "sign"]) (sc := defScope s__law_tables) (own := [("state", 6)]) (by decide +kernel)) (fun _ _ _ _ _ => (pg_name (i := 6) sc.nd rfl (Or.inl rfl))) (fun _ _ _ _ _ => pts_nil)
        (fun _ _ _ _ _ => pe_lc (own := [("sign", 7)]) (tt := tYes) rfl sc.nd (pi_str (pv 1)) (blkOk_by (own := [("sign", 7)]) (by rfl)) (fun _ _ _ _ _ => pg_name (i := 7) sc.nd rfl (Or.inl rfl)) (fun _ _ _ _ _ => pts_nil)
          (fun _ _ _ _ _ => pe_tup (pa_cons (pe_call G_draw (hr.mono (by decide)) rfl T.pen.D__law_draw.g T.pen.D__law_draw.F.kp T.pen.D__law_draw.b .nil pass0 (pa_cons (pv 0) (pa_cons (pv 4) pa_nil))) (pa_cons (pe_call G_keys (hr.mono (by decide)) rfl T.D__law_keys.g T.D__law_keys.F.kp T.D__law_keys.b .nil pass0 (pa_cons (pv 0) (pa_cons (pv 3) pa_nil))) pa_nil)))))
      (pss_one (ps_ret (pe_tup (pa_cons (pv 5) (pa_cons (pe_lc (own := [("state", 6)]) (g := gName 6) (tt := tYes) rfl sc.nd (pi_range1 rfl T.n_range (pa_cons (pv 4) pa_nil)) (blkOk_by (N := ["pen", "signs", "most", "words", "many", "rows", "state", "sign"]) (sc := defScope s__law_tables) (own := [("state", 6)]) (by decide +kernel)) (fun _ _ _ _ _ => (pg_name (i := 6) sc.nd rfl (Or.inl rfl))) (fun _ _ _ _ _ => pts_nil)
          (fun _ _ _ _ _ => pe_call G_keys (hr.mono (by decide)) rfl T.D__law_keys.g T.D__law_keys.F.kp T.D__law_keys.b .nil pass0 (pa_cons (pv 0) (pa_cons (pv 3) pa_nil)))) pa_nil))))))), ?_⟩
    have nq : q ≠ p := hp.ne hq
    refine ⟨_, rfl, _, rfl, p, c, most, n, rfl, hp, by omega, by omega, by omega, fun r0 H1 r1 r2 hp1 sb1 => ?_⟩
    obtain ⟨m0, rfl⟩ := Int.eq_ofNat_of_zero_le r1
    refine ⟨_, _, rfl, rfl, ?_⟩
    have tn : (1 + ((m0 : Nat) : Int)).toNat = m0 + 1 := by omega
    -- rows
    refine ⟨_, rfl, 1 + ((m0 : Nat) : Int), rfl, by omega, by omega, fun D hD => ?_⟩
    rw [tn]
    have ap := hp1.apart hD
    have gD : (upd H1 D (.lst [])) D = some (.lst []) := upd_same
    have gU : ∀ {H' : Hp} {m : Nat}, SameBut p H1 H' → PenAt H' p c m → (∃ xs, H' D = some (.lst xs)) → ∀ b, H' b = none → (upd H1 D (.lst [])) b = none := fun {H' m} s0 h0 ⟨xs, d0⟩ b e => by
      have nb : b ≠ D := fun z => by rw [z, d0] at e; cases e
      rw [upd_ne nb]
      exact none_back s0 h0 e
    have gP : ∀ b, (upd H1 D (.lst [])) b = none → b ≠ p ∧ b ≠ D := fun b e => by
      refine ⟨fun z => ?_, fun z => by rw [z, gD] at e; cases e⟩
      obtain ⟨o, h⟩ := hp1.some
      rw [z, upd_ne ap.1.symm, h] at e
      cases e
    refine lcs_it [some (.ref p), some (.str sg), some (.int most), some (.ref q), some (.int (1 + ((m0 : Nat) : Int))), none, none, none] rfl walk_range
      (fun i H' => PenAt H' p c (n + 1 + 16 * i) ∧ SameBut p H1 H' ∧ ∃ (acc : List V) (R : List (List Way)), H' D = some (.lst acc) ∧ acc.length = i ∧ Paired (RowN (upd H1 D (.lst [])) H') acc R ∧ ∀ row ∈ R, row.length = sg.cps.size ∧ ∀ w ∈ row, GoodW (1 + ((m0 : Nat) : Int)) ws w)
      ⟨hp1.keep (Same.upd hD), .new hD, [], [], upd_same, rfl, .nil, fun w hw => nomatch hw⟩ (fun _ _ _ _ => trivial) ?_ ?_
    · rintro i x _ H2 hi ⟨hp2, sb2, acc, R, hacc, hl, pa, gd⟩ ⟨rfl, rfl⟩
      refine ⟨rfl, tyes ?_⟩
      simp only [if_true]
      refine row_drawn hp2 (by omega) (by omega) (sb2 _ _ (sb1 _ _ hq nq) nq) w0 w1 (by omega) (by omega) fun t r H3 hr3 lr g3 hp3 sb3 => ?_
      have D3 := sb3 _ _ hacc ap.1
      refine ⟨acc, D3, by rw [hl, sizeLine_eq]; omega, (hp3.put ap.1 ap.2).mono (by omega), fun b o e nb => ?_, acc ++ [.ref t], R ++ [r], upd_same, by rw [List.length_append, hl]; rfl, ?_, fun row hrow => ?_⟩
      · rw [upd_ne (ne_of_none e hD)]
        exact sb3 _ _ (sb2 _ _ e nb) nb
      · refine psnoc (L2.Paired.mapP pa fun _ _ z => z.keep (fun b o e g => ?_) fun _ g => g) (hr3.keep (fun b o e g => ?_) (gU sb2 hp2 ⟨_, hacc⟩))
        · rw [upd_ne (gP b g).2]
          exact sb3 _ _ e (gP b g).1
        · have nb : b ≠ D := fun z => by rw [z, hacc] at g; cases g
          rw [upd_ne nb]
          exact e
      · rcases List.mem_append.mp hrow with h | h
        · exact gd row h
        · rw [List.mem_singleton.mp h]
          exact ⟨lr, g3⟩
    rintro H2 ⟨hp2, sb2, rv, R, hrv, hl, pR, gR⟩
    -- ends
    refine ⟨_, rfl, _, rfl, 1 + ((m0 : Nat) : Int), rfl, by omega, by omega, fun D2 hD2 => ?_⟩
    rw [tn]
    have ap2 := hp2.apart hD2
    have nDD : D ≠ D2 := ne_of_none hrv hD2
    have gD2 : (upd H2 D2 (.lst [])) D2 = some (.lst []) := upd_same
    have gP2 : ∀ b, (upd H2 D2 (.lst [])) b = none → b ≠ p ∧ b ≠ D2 ∧ H2 b = none := fun b e => by
      have nb : b ≠ D2 := fun z => by rw [z, gD2] at e; cases e
      rw [upd_ne nb] at e
      refine ⟨fun z => ?_, nb, e⟩
      obtain ⟨o, h⟩ := hp2.some
      rw [z, h] at e
      cases e
    refine lcs_it [some (.ref p), some (.str sg), some (.int most), some (.ref q), some (.int (1 + ((m0 : Nat) : Int))), some (.ref D), none, none] rfl walk_range
      (fun i H' => PenAt H' p c (n + 1 + 16 * (m0 + 1) + 3 * i) ∧ SameBut p H2 H' ∧ ∃ (acc : List V) (Es : List (List Str)), H' D2 = some (.lst acc) ∧ acc.length = i ∧ Paired (KeyN (upd H2 D2 (.lst [])) H') acc Es ∧ ∀ ks ∈ Es, KeyOk ws ks)
      ⟨hp2.keep (Same.upd hD2), .new hD2, [], [], upd_same, rfl, .nil, fun w hw => nomatch hw⟩ (fun _ _ _ _ => trivial) ?_ ?_
    · rintro i x _ H3 hi ⟨hp3, sb3, acc, Es, hacc, hl3, pa, gd⟩ ⟨rfl, rfl⟩
      refine ⟨rfl, _, rfl, _, rfl, p, c, q, _, ws, rfl, hp3, by omega, sb3 _ _ (sb2 _ _ (sb1 _ _ hq nq) nq) nq, w0, w1, fun t ks H4 ht h4 hm hk2 hkk hp4 sb4 => ?_⟩
      have D4 := sb4 _ _ hacc ap2.1
      have nt : t ≠ D2 := fun z => by rw [z, hacc] at ht; cases ht
      refine ⟨acc, D4, by rw [hl3, sizeLine_eq]; omega, (hp4.put ap2.1 ap2.2).mono (by omega), fun b o e nb => ?_, acc ++ [.ref t], Es ++ [ks], upd_same, by rw [List.length_append, hl3]; rfl, ?_, fun k1 hk1 => ?_⟩
      · rw [upd_ne (ne_of_none e hD2)]
        exact sb4 _ _ (sb3 _ _ e nb) nb
      · refine psnoc (L2.Paired.mapP pa fun _ _ z => z.keep (fun b o e g => ?_) fun _ g => g) ⟨t, rfl, by rw [upd_ne nt]; exact h4, ?_⟩
        · rw [upd_ne (gP2 b g).2.1]
          exact sb4 _ _ e (gP2 b g).1
        · rw [upd_ne nt]
          exact none_back sb3 hp3 ht
      · rcases List.mem_append.mp hk1 with h | h
        · exact gd k1 h
        · rw [List.mem_singleton.mp h]
          exact ⟨hm, hk2, hkk⟩
    rintro H3 ⟨hp3, sb3, ev, Es, hev, hl3, pE, gE⟩
    refine ⟨by show 2 ≤ sizeLine; decide, fun t ht => ?_⟩
    have rD := sb3 _ _ hrv ap.1
    have ntD : D ≠ t := ne_of_none rD ht
    have ntE : D2 ≠ t := ne_of_none hev ht
    have s13 : SameBut p H H3 := (sb1.trans sb2).trans sb3
    have back1 : ∀ b, H1 b = none → H b = none := fun b e => none_back sb1 hp1 e
    have back2 : ∀ b, H2 b = none → H b = none := fun b e => none_back (sb1.trans sb2) hp2 e
    refine k t D D2 rv ev R Es (m0 + 1) _ (by omega) (by omega) upd_same (by rw [upd_ne ntD]; exact rD) ?_ (by rw [upd_ne ntE]; exact hev) ?_ ((Paired.length pR).symm.trans hl) ((Paired.length pE).symm.trans hl3) (fun row hrow => ⟨(gR row hrow).1, fun w hw => ?_⟩) gE (none_back s13 hp3 ht) (back1 D hD) (back2 D2 hD2) ((hp3.keep (Same.upd ht)).mono (by omega)) (s13.trans (.new ht))
    · refine L2.Paired.mapP pR fun _ _ z => z.keep (fun b o e g => ?_) fun b g => ?_
      · have e3 := sb3 _ _ e (gP b g).1
        rw [upd_ne (ne_of_none e3 ht)]
        exact e3
      · have nb := (gP b g).2
        rw [upd_ne nb] at g
        exact back1 b g
    · refine L2.Paired.mapP pE fun _ _ z => z.keep (fun b o e _ => ?_) fun b g => back2 b (gP2 b g).2.2
      rw [upd_ne (ne_of_none e ht)]
      exact e
    · have := (gR row hrow).2 w hw
      rw [show ((m0 + 1 : Nat) : Int) = 1 + ((m0 : Nat) : Int) by omega]
      exact this
end
end Kx

namespace L2
open PySem PySem.Spec PyProof.Rows
/-! ### try with several clauses `except C as e` -/
abbrev Clause := Value × Nat × TS
/-- what is wished of an exception of the body, clause by clause -/
def wAsL (K : PySem.W.Frag) (D : Ends) : List Clause → WX
  | [] => fun _ _ _ _ => False
  | (c, i, ts) :: r => fun cls d σ H => (PySem.W.exmOne K cls c = some true ∧ ∃ C : Addr, cls = .ref C ∧ ∀ a, H a = none → ts (D.less i) (σ.set i (some (.ref a))) (upd H a (xob a C d))) ∨ (PySem.W.exmOne K cls c = some false ∧ wAsL K D r cls d σ H)
inductive PHs (X : Cx) : List ExceptHandler → List Clause → Prop
  | nil : PHs X [] []
  | cons {x n : Str} {c : Value} {i : Nat} {b0 : Stmt} {suite : List Stmt} {p1 p2 : Pos} {ts : TS} {hs : List ExceptHandler} {cs : List Clause} (slot : X.N[i]? = some n) (loc : X.env.kindOf n = some .local) (names : Names X x c)
      (run : ∀ (a : Addr) (pn : List (Addr × Obj)), PSs (X.suite a pn) (b0 :: suite) ts) (rest : PHs X hs cs) : PHs X (.ExceptHandler (some (.Name x p1)) (some n) (b0 :: suite) p2 :: hs) ((c, i, ts) :: cs)
section
variable {X : Cx}
theorem ref_of_wish {K : PySem.W.Frag} {D : Ends} : ∀ {cs : List Clause} {cls : Value} {d : Option Addr} {σ : St} {H : Hp}, wAsL K D cs cls d σ H → ∃ C : Addr, cls = .ref C
  | [], _, _, _, _, h => h.elim
  | (c, i, ts) :: r, _, _, _, _, h => h.elim (fun ⟨_, C, e, _⟩ => ⟨C, e⟩) fun ⟨_, h⟩ => ref_of_wish h
variable {body : List Stmt} {hs : List ExceptHandler} {cs : List Clause} {p3 : Pos} {tb : WX → TS}
theorem caughtL {pins : List (Addr × Obj)} {D : Ends} {u : Value} {s : Shared} {xe : Value → Shared → Prop} (alone : X.ex = []) (top : X.stack = X.env :: X.outer) (frame : X.env.frame = some X.env.locals) (nodup : X.N.Nodup) (ok : X.Ok)
    (cl : PHs X hs cs) (fly : XE (X.tr (X.pn ++ pins) xe) (wAsL X.K D cs) u s) :
    wpAny (model X.prog X.w) X.A (noteFrame u X.env) (fun _ s2 => wpAny (model X.prog X.w) X.A (setFlight u none) (fun _ s3 => wpAny (model X.prog X.w) X.A (handleBy u X.env hs) (SP X pins D) X.xe s3) X.xe s2) X.xe s := by
  obtain ⟨a, ground, sI, _, σ1, H1, cls, d, rfl, Jt, stays, slots, sky, free, os, gens, wish⟩ := fly
  obtain ⟨C, rfl⟩ := ref_of_wish wish
  have J : Inv X pins σ1 H1 sI := Jt.ofTry ok
  refine Sky.land Zc.steady (ok.frames.trans (congrArg some top)) frame (top ▸ sky) fun h3 f3 up3 => ?_
  obtain ⟨o3, v3, g3, z3, d3⟩ := f3.there
  have notFrame : a ∉ frs X.stack := fun hm => by
    obtain ⟨_, o, e, other⟩ := f3.2.2.1.mem (top ▸ hm)
    exact other v3 (Option.some.inj (e.symm.trans g3) ▸ d3)
  have absent : sI.heap.get? a = none := Option.eq_none_iff_forall_ne_some.mpr fun o e => by
    have z := stays a o e notFrame
    rw [f3.2.1] at z
    cases z
  obtain ⟨n0, nL, nC, nP⟩ := newcomer J alone absent
  have J3 : Inv X pins σ1 H1 { s with heap := h3 } := J.landed stays f3.1 (slots.trans up3) os gens
  have cls3 : PySem.W.Looks (model X.prog X.w) h3 (typeOf (.ref a)) (.ref C) := fun _ _ _ _ keep q => wpAny_typeOf_ref (keep _ _ g3) (z3.1.symm ▸ q)
  -- clause by clause
  induction cl with
  | nil => exact wish.elim
  | @cons x n c i b0 suite p1 p2 ts hs cs slot loc names run rest ih =>
    have clause : ∀ {Q : Value → Shared → Prop} {E : Value → Shared → Prop}, Q c { s with heap := h3 } → wpAny (model X.prog X.w) (X.A.mark (some (.ref a))) (eval (.Name x p1) X.env) Q E { s with heap := h3 } := fun {Q E} q => by
      rcases names with ⟨gl, dbg, is | ⟨no, boot, other⟩⟩
      · exact ld_glob (J3.inSuite a) gl is q dbg
      · exact ld_blt (J3.inSuite a) gl no boot q other dbg
    rcases wish with ⟨named, C', eC, w⟩ | ⟨named, w⟩
    · cases eC
      refine wpAny_handleBy_cons (codeAny_handlers_test (clause ((PySem.W.exm_one (M := model X.prog X.w) J3.kIn cls3 named).here ?_))) (fun z => nomatch z)
      refine codeAny_handlers_suite_as (HandSPX.lands_againZ f3 fun h4 f4 up4 => ?_)
      obtain ⟨o4, v4, g4, z4, d4⟩ := f4.there
      have J4 : Inv X pins σ1 H1 { s with heap := h4 } := J.landed stays f4.1 ((slots.trans up3).trans up4) os gens
      have J5 := (J4.track free n0 nL nC nP (xob_ok g4 z4 d4)).inSuite a
      refine store_ok (X := X.suite a (X.pn ++ pins)) (v := .ref a) J5 nodup slot (.inl loc) rfl (fun s5 S5 => ?_) (.inr loc)
      have leave : ∀ {σ6 : St} {H6 : Hp} {s6 : Shared} {Q : Shared → Prop}, Inv (X.suite a (X.pn ++ pins)) [] σ6 H6 s6 → (∀ s7, Inv X pins (σ6.set i none) H6 s7 → Q s7) → wpAny (model X.prog X.w) X.A (do bindName X.env n .none; unbindBehindTheSuite X.env n p2) (fun _ s7 => Q s7) X.xe s6 :=
        fun S6 q => gone_ok (S6.outSuite ok) nodup slot loc q
      refine wpAny_mono ((run a (X.pn ++ pins)).run [] s5 _ _ _ S5 (w a free)) (fun fl s6 q => ?_) fun _ _ z => z.elim
      match fl, q with
      | .next, ⟨_, _, S6, q⟩ => exact leave S6 fun _ J7 => ⟨_, _, J7, q⟩
      | .brk, ⟨_, _, S6, q⟩ => exact leave S6 fun _ J7 => ⟨_, _, J7, q⟩
      | .cont, ⟨_, _, S6, q⟩ => exact leave S6 fun _ J7 => ⟨_, _, J7, q⟩
      | .ret _, ⟨_, _, _, S6, r, q⟩ => exact leave S6 fun _ J7 => ⟨_, _, _, J7, r, q⟩
    · refine wpAny_handleBy_cons (codeAny_handlers_test (clause ((PySem.W.exm_one (M := model X.prog X.w) J3.kIn cls3 named).here ?_))) (fun z => nomatch z)
      exact ih w
theorem ps_try_asL {h0 : ExceptHandler} (alone : X.ex = []) (top : X.stack = X.env :: X.outer) (frame : X.env.frame = some X.env.locals) (nodup : X.N.Nodup) (cl : PHs X (h0 :: hs) cs)
    (try_ : ∀ (W : WX) (pn : List (Addr × Obj)) (xe : Value → Shared → Prop), Takes (X.tr pn xe) W → PSs (X.tr pn xe) body (tb W)) :
    PS X (.Try body (h0 :: hs) [] [] p3) (fun D σ H => tb (wAsL X.K D cs) D σ H) where
  run := fun pins s σ H D I h => by
    have ok := I.ok
    refine wpAny_Try_except (wpAny_mono ((try_ (wAsL X.K D cs) (X.pn ++ pins) _ fun u s' y => caughtL alone top frame nodup ok cl y).run [] s σ H D (I.toTry _) h) (fun fl s1 q => ?_) fun _ _ z => z)
    match fl, q with
    | .next, ⟨_, _, J, q⟩ => exact wpAny_execs_nil ⟨_, _, J.ofTry ok, q⟩
    | .brk, ⟨_, _, J, q⟩ => exact ⟨_, _, J.ofTry ok, q⟩
    | .cont, ⟨_, _, J, q⟩ => exact ⟨_, _, J.ofTry ok, q⟩
    | .ret _, ⟨_, _, _, J, r, q⟩ => exact ⟨_, _, _, J.ofTry ok, r, q⟩
end
/-! ### C(..) of an own class in a try: its __init__ may raise -/
def tMakeS (C : Addr) (sp : Sp) (E : St → XK) (t : TA) : TE := fun σ H Q => t σ H fun vs H1 => ∀ x dx, H1 x = none → H1 dx = none → dx ≠ x → sp (.ref x :: vs) (upd (upd H1 dx (.own x)) x (.ins C dx [])) (fun v H2 => v = .non ∧ Q (.ref x) H2) (E σ)
section
variable {X : Cx} {CX : CXT} {k : Nat} {f C : Addr} {fd : FuncData} {ps : List Str} {sp : Sp} {E : St → XK} {x : Str} {p pos : Pos} {e : Expr} {es : List Expr} {t : TA}
theorem pe_makeS (M : Mk X.K C f) (F : FnOk X.prog X.w X.K X.mg X.base CX k f fd ps sp) (hr : Room (k + 1) X.A) (hg : Gl X x) (hm : X.mg x = some (.ref C)) (hb : Binds X.K fd ps []) (hx : ∀ σ, PassesAt CX X σ (E σ))
    (ha : PA X (e :: es) t) (hdb : (x == ("__debug__" : Str)) = false := by decide) (he : starEach (e :: es) X.env = (false, eval e X.env) :: starEach es X.env := by rfl) (hpl : (backTo pos (starEach es X.env)).any (·.1) = false := by rfl) :
    PE X (.Call (.Name x p) (e :: es) [] pos) (tMakeS C sp E t) := by
  refine ⟨fun pins s σ H Q I h => wpAny_Call_Name_kw (ld_glob I hg hm (PySem.W.callWith_K (h₀ := X.base) I.ok.mod.kin M.kp (thn (ha.run pos pins s σ H _ I h) fun us s1 ⟨vs, H1, I1, r, q⟩ => ⟨I1.kIn, ?_⟩) he hpl) hdb)⟩
  -- the instance, its dict
  have w := q (s1.heap.objs.size + 1) s1.heap.objs.size (I1.hok.fresh (Nat.le_succ _)) (I1.hok.fresh (Nat.le_refl _)) (Nat.ne_of_lt (Nat.lt_succ_self _))
  have J := Inv.made (C := C) I1
  have rr : Vals (V.ref (s1.heap.objs.size + 1) :: vs) (Value.ref (s1.heap.objs.size + 1) :: us) := .cons rfl r
  have len : (Value.ref (s1.heap.objs.size + 1) :: us).length = ps.length := rr.length.symm.trans (F.len _ _ _ _ w)
  have b := hb _ (Value.ref (s1.heap.objs.size + 1) :: us) J.kIn (by rw [List.append_nil]; exact len)
  rw [List.append_nil] at b
  refine wpAny_call (make_map (f := f) I1.kIn M.makes M.init (beq_iff_eq.mp M.fn) (codeAny_mono (F.run _ X.stack _ _ _ _ _ _ (E σ) (hr.make C us []) (J.env0.make C us []) b rr w) fun y z hy => ?_))
  match y, hy with
  | .error e, hy => exact hx σ pins _ _ e z J hy
  | .ok (.ret u), hy =>
    obtain ⟨v, H3, J3, rv, ev, q3⟩ := J.after hy
    subst ev
    exact ⟨rv, ⟨V.ref (s1.heap.objs.size + 1), H3, J3, rfl, q3⟩⟩
  | .ok .next, hy => exact False.elim hy
  | .ok .brk, hy => exact False.elim hy
  | .ok .cont, hy => exact False.elim hy
end
end L2

namespace Own
open PySem PySem.Spec L2 PyProof.Rows
/-! ### calls whose errors are told by the slots: cls(..), C.m(..) -/
/-- an instance is made, its __init__ may raise -/
theorem run_makeS {X : Cx} {CX : CXT} {k : Nat} {f C : Addr} {fd : FuncData} {ps : List Str} {sp : Sp} {E : XK} {Q : VK} {pins : List (Addr × Obj)} {σ : L2.St} {H1 : Hp} {s1 : Shared} {us : List Value} {vs : List V} (M : Mk X.K C f) (F : FnOk X.prog X.w X.K X.mg X.base CX k f fd ps sp) (hr : Room (k + 1) X.A) (hb : Binds X.K fd ps []) (hx : PassesAt CX X σ E)
    (I1 : Inv X pins σ H1 s1) (r : Vals vs us) (q : ∀ x dx, H1 x = none → H1 dx = none → dx ≠ x → sp (.ref x :: vs) (upd (upd H1 dx (.own x)) x (.ins C dx [])) (fun v H2 => v = .non ∧ Q (.ref x) H2) E) :
    wpAny (model X.prog X.w) X.A (call (.ref C) us) (EP X pins σ Q) X.xe s1 := by
  have w := q (s1.heap.objs.size + 1) s1.heap.objs.size (I1.hok.fresh (Nat.le_succ _)) (I1.hok.fresh (Nat.le_refl _)) (Nat.ne_of_lt (Nat.lt_succ_self _))
  have J := Inv.made (C := C) I1
  have rr : Vals (V.ref (s1.heap.objs.size + 1) :: vs) (Value.ref (s1.heap.objs.size + 1) :: us) := .cons rfl r
  have len : (Value.ref (s1.heap.objs.size + 1) :: us).length = ps.length := rr.length.symm.trans (F.len _ _ _ _ w)
  have b := hb _ (Value.ref (s1.heap.objs.size + 1) :: us) J.kIn (by rw [List.append_nil]; exact len)
  rw [List.append_nil] at b
  have go := F.run _ X.stack _ _ ⟨Value.ref (s1.heap.objs.size + 1) :: us, []⟩ _ _ _ E (hr.make C us []) (J.env0.make C us []) b rr w
  refine wpAny_call (make_map (f := f) I1.kIn M.makes M.init (beq_iff_eq.mp M.fn) (codeAny_mono go fun y z hy => ?_))
  cases y with
  | error e => exact hx pins _ _ e z J hy
  | ok fl =>
    cases fl with
    | ret u =>
      obtain ⟨v, H3, J3, rv, ev, q3⟩ := J.after hy
      subst ev
      exact ⟨rv, ⟨V.ref (s1.heap.objs.size + 1), H3, J3, rfl, q3⟩⟩
    | next => exact hy.elim
    | brk => exact hy.elim
    | cont => exact hy.elim
def tMakeLS (i : Nat) (C : Addr) (sp : Sp) (E : L2.St → XK) (t : TA) : TE := fun σ H Q => σ[i]? = some (some (.ref C)) ∧ tMakeS C sp E t σ H Q
def tCMethS (C : Addr) (sp : Sp) (E : L2.St → XK) (ta : TE) (t : TA) : TE := fun σ H Q => ta σ H fun x H1 => x = .ref C ∧ t σ H1 fun vs H2 => sp (.ref C :: vs) H2 Q (E σ)
section
variable {X : Cx} {CX : CXT} {k i : Nat} {f C p0 g : Addr} {fd : FuncData} {ps : List Str} {sp : Sp} {E : L2.St → XK} {x m : Str} {p pos apos : Pos} {o e : Expr} {es : List Expr} {t : TA} {ta : TE} {mc : Value} {pl : Sem Bool}
theorem pe_makeLS (M : Mk X.K C f) (F : FnOk X.prog X.w X.K X.mg X.base CX k f fd ps sp) (hr : Room (k + 1) X.A) (hN : X.N[i]? = some x) (hv : Vis X.env.scope x) (hb : Binds X.K fd ps []) (hx : ∀ σ, PassesAt CX X σ (E σ))
    (ha : PA X (e :: es) t) (hdb : (x == ("__debug__" : Str)) = false := by decide) (hcd : (x == ("__classdict__" : Str)) = false := by decide) (he : starEach (e :: es) X.env = (false, eval e X.env) :: starEach es X.env := by rfl) (hpl : (backTo pos (starEach es X.env)).any (·.1) = false := by rfl) :
    PE X (.Call (.Name x p) (e :: es) [] pos) (tMakeLS i C sp E t) := by
  refine ⟨fun pins st σ H Q I h => ?_⟩
  obtain ⟨hs, ht⟩ := h
  refine wpAny_Call_Name_kw (thn ((pe_var (pos := p) hN hv hdb hcd).run pins st σ H (fun v H1 => v = .ref C ∧ H1 = H) I ⟨.ref C, hs, rfl, rfl⟩) fun u s1 ⟨v, H1, I1, r1, q1⟩ => ?_)
  obtain ⟨rfl, rfl⟩ := q1
  cases r1
  exact PySem.W.callWith_K (h₀ := X.base) I.ok.mod.kin M.kp (thn (ha.run pos pins s1 σ _ _ I1 ht) fun us s2 ⟨vs, H2, I2, r, q⟩ => ⟨I2.kIn, run_makeS M F hr hb (hx σ) I2 r q⟩) he hpl
theorem pe_cmethS (he : PE X o ta) (r : ClX.CRead X.K C mc) (c : ClX.CMet X.K C mc m p0 g) (F : FnR X.prog X.w X.K X.mg X.base CX k g sp) (hr : Room k X.A) (hx : ∀ σ, PassesAt CX X σ (E σ)) (ha : PA X (e :: es) t) (hst : starEach (e :: es) X.env = (false, eval e X.env) :: starEach es X.env := by rfl) (hpl : (backTo pos (starEach es X.env)).any (·.1) = false := by rfl)
    (ht : eval (.Call (.Attribute o m apos) (e :: es) [] pos) X.env = (do let ov ← eval o X.env; standAt apos.atName; let (f, first) ← holding [ov] (getMethod ov m pl); callWith pos f first (backTo pos (starEach (e :: es) X.env)) (backToKw pos (keywordEach [] X.env))) := by rfl) :
    PE X (.Call (.Attribute o m apos) (e :: es) [] pos) (tCMethS C sp E ta t) := by
  refine ⟨fun pins st σ H Q I h => ?_⟩
  refine PySem.W.methodCall_KW (pl := pl) (thn (he.run pins st σ H _ I h) fun u s1 ⟨y, H1, I1, ry, ey, q⟩ => ?_) ht
  subst ey
  have eu : u = Value.ref C := ry
  subst eu
  refine ClX.getmethcm_ok I1 r c fun s2 I2 => ?_
  refine ClX.callwith_cm I2 (ClX.base_none I1 (Nat.le_refl _)) c.fi (thn (ha.run pos _ s2 σ H1 _ I2 q) fun us s3 ⟨vs, H2, I3, rv, q2⟩ => ⟨⟨ClX.pin_at I3, I3.kIn⟩, ?_⟩) hst hpl
  have go := F X.A X.stack s3 H2 (.ref C :: us) (.ref C :: vs) Q (E σ) hr I3.env0 (.cons rfl rv) q2
  have z : wpAny (model X.prog X.w) X.A (call (.ref s1.heap.objs.size) us) (EP X ((s1.heap.objs.size, PySem.W.methodObj (.ref g) (.ref C)) :: pins) σ Q) X.xe s3 :=
    wpAny_call (PySem.W.method_call (ClX.pin_at I3) (codeAny_mono go fun y s' hy => by
      cases y with
      | error e => exact hx σ _ _ _ e s' I3 hy
      | ok fl =>
        cases fl with
        | ret u => exact I3.after hy
        | next => exact hy.elim
        | brk => exact hy.elim
        | cont => exact hy.elim))
  exact thn z fun _ _ y => ClX.unpinE y
end
end Own

namespace Kx
open PySem L2 Own
abbrev lk (c : Nat) : Key := Sum.inr (Froz.sing c)
variable {P : Program} {w : World} {K : PySem.W.Frag} {A : EAd} {Z : CAd}
theorem PenAt.neT {H : Hp} {p c : Addr} {n : Nat} (h : PenAt H p c n) {b : Addr} {xs : List V} (e : H b = Option.some (.tup xs)) : b ≠ p := by
  obtain ⟨ns, a, l, h1, _⟩ := h
  exact ne_of e h1 (by intro z; cases z)
theorem kvUp_other {sg : Str} {vs : List V} {y : Str} (h : ∀ c, (Sum.inr y : Key) ≠ lk c) : ∀ i, valV (kvUp sg vs i) (Sum.inr y) = none
  | 0 => rfl
  | i + 1 => by
    have ih := kvUp_other h (sg := sg) (vs := vs) i
    unfold kvUp
    split
    · rw [valV_put, if_neg (h _), ih]
    · exact ih
theorem cells_not (c : Nat) : kCells ≠ lk c := fun e => by
  have h1 : ("cells" : Str) = Froz.sing c := Sum.inr.inj e
  have h2 : (5 : Nat) = 1 := congrArg (fun z : Str => z.cps.size) h1
  cases h2
theorem MachAt.keepN {C : Addr} {H H' : Hp} {p c : Addr} {n : Nat} {m : Addr} {sg : Str} {R : List (List Way)} {Es : List (List Str)} (hp : PenAt H p c n) (k : ∀ b o, H b = some o → (∀ xs, o ≠ .lst xs) → b ≠ p → H' b = some o) (h : MachAt C H m sg R Es) : MachAt C H' m sg R Es := by
  obtain ⟨dx, r, e, k0, w, rv, ev, wv, hm0, hr0, pr, he0, pe, hk0, hw0, pw⟩ := h
  have kt : ∀ b xs, H b = some (.tup xs) → H' b = some (.tup xs) := fun b xs z => k b _ z (fun _ y => by cases y) (hp.neT z)
  have np : ∀ {b : Addr} {C dx : Addr} {fs : List (Str × V)}, H b = some (.ins C dx fs) → b ≠ p := fun {b C dx fs} z => by
    obtain ⟨ns, a, l, h1, _⟩ := hp
    exact ne_of z h1 (by intro y; cases y)
  refine ⟨dx, r, e, k0, w, rv, ev, wv, k _ _ hm0 (fun _ y => by cases y) (np hm0), kt _ _ hr0, L2.Paired.mapP pr fun _ _ z => z.keep kt, kt _ _ he0, L2.Paired.mapP pe fun _ _ z => z.keep kt, kt _ _ hk0, kt _ _ hw0, L2.Paired.mapP pw fun _ _ ⟨a, b, vs, e1, e2, e3, e4⟩ => ⟨a, b, vs, e1, e2, kt _ _ e3, k _ _ e4 (fun _ y => by cases y) fun z => ?_⟩⟩
  subst z
  obtain ⟨ns, x, l, h1, _⟩ := hp
  rw [h1] at e4
  injection e4 with e4
  injection e4 with e4
  have h2 := pen_cells c x l
  rw [e4, kvUp_other cells_not] at h2
  cases h2
theorem MachAt.keepS {C : Addr} {H H' : Hp} {p c : Addr} {n : Nat} {m : Addr} {sg : Str} {R : List (List Way)} {Es : List (List Str)} (hp : PenAt H p c n) (s : SameBut p H H') (h : MachAt C H m sg R Es) : MachAt C H' m sg R Es := h.keepN hp fun b o e _ nb => s b o e nb
theorem passX {P : Program} {w : World} {X : Cx} {E : XK} (hE : ∀ c d H, ¬ E c d H) : Passes (L2.CX P w) X E := fun _ _ _ _ _ _ _ ⟨_, _, _, _, _, _, _, _, _, _, _, _, h⟩ => (hE _ _ _ h).elim
theorem tabs_small {R : List (List Way)} {Es : List (List Str)} (row : ∀ q ∈ R, q.length ≤ 4 ∧ ∀ w ∈ q, w.2.length ≤ 4) (l16 : R.length ≤ 16) (e16 : Es.length ≤ 16) (ends : ∀ ks ∈ Es, ks.length ≤ 4) : (keysOfRows R ++ Es.flatten).length + 1 < scanBound := by
  have fb : ∀ {α : Type} (f : α → List Str) (m : Nat) {l : List α}, (∀ x ∈ l, (f x).length ≤ m) → (l.flatMap f).length ≤ m * l.length := by
    intro α f m l
    induction l with
    | nil => intro _; simp
    | cons x l ih =>
      intro h
      have := ih fun y hy => h y (List.mem_cons_of_mem _ hy)
      have := h x List.mem_cons_self
      rw [List.flatMap_cons, List.length_append, List.length_cons, Nat.mul_succ]
      omega
  have a : (keysOfRows R).length ≤ 16 * R.length := fb _ 16 fun q hq => by
    have := fb (fun w : Way => w.2) 4 (l := q) fun w hw => (row q hq).2 w hw
    have := (row q hq).1
    omega
  have b : (Es.flatMap id).length ≤ 4 * Es.length := fb _ 4 ends
  rw [List.flatMap_id] at b
  rw [List.length_append]
  have e : scanBound = 4096 := rfl
  omega
theorem init_ok {H1 : Hp} {m dx r e : Addr} {sg : Str} {rv ev : List V} {R : List (List Way)} {Es : List (List Str)} {Q : VK} {E : XK} (hm : H1 m = none) (hdx : H1 dx = none) (hr : H1 r = some (.lst rv)) (pr : Paired (RowE H1) rv R) (he : H1 e = some (.lst ev)) (pe : Paired (KeyE H1) ev Es)
    (asc : sg.cps.all (· < 128) = true) (z4 : sg.cps.size ≤ 4) (row : ∀ q ∈ R, q.length = sg.cps.size ∧ ∀ w ∈ q, Okw R.length w ∧ w.2.length ≤ 4) (l16 : R.length ≤ 16) (e16 : Es.length ≤ 16) (ends : ∀ ks ∈ Es, ks.length ≤ 4) (few : (kl (keysOfRows R ++ Es.flatten)).length ≤ 12)
    (q : ∀ H', Same H1 H' → MachAt Z.C H' m sg (R.map nrm) (Es.map kl) → Q .non H') : spInit K A Z [.ref m, .str sg, .ref r, .ref e] (upd (upd H1 dx (.own m)) m (.ins Z.C dx [])) Q E := by
  have s0 : Same H1 (upd (upd H1 dx (.own m)) m (.ins Z.C dx [])) := fun b o z => by
    rw [upd_ne (ne_of_none z hm), upd_ne (ne_of_none z hdx)]
    exact z
  have a : (keysOfRows R).length ≤ 16 * R.length := by
    have fb : ∀ {α : Type} (f : α → List Str) (m : Nat) {l : List α}, (∀ x ∈ l, (f x).length ≤ m) → (l.flatMap f).length ≤ m * l.length := by
      intro α f m l
      induction l with
      | nil => intro _; simp
      | cons x l ih =>
        intro h
        have := ih fun y hy => h y (List.mem_cons_of_mem _ hy)
        have := h x List.mem_cons_self
        rw [List.flatMap_cons, List.length_append, List.length_cons, Nat.mul_succ]
        omega
    refine fb _ 16 fun q hq => ?_
    have := fb (fun w : Way => w.2) 4 (l := q) fun w hw => ((row q hq).2 w hw).2
    have := (row q hq).1
    omega
  have b : Es.flatten.length ≤ 4 * Es.length := by
    clear pe few q
    induction Es with
    | nil => simp
    | cons x l ih =>
      have := ih (by simp at e16; omega) fun ks hk => ends ks (List.mem_cons_of_mem _ hk)
      have := ends x List.mem_cons_self
      rw [List.flatten_cons, List.length_append, List.length_cons]
      omega
  have bound : (keysOfRows R ++ Es.flatten).length + 1 < scanBound := by
    rw [List.length_append]
    have e : scanBound = 4096 := rfl
    omega
  refine ⟨m, r, e, dx, sg, rv, ev, R, Es, rfl, upd_same, s0 _ _ hr, L2.Paired.mapP pr fun _ _ z => toRow (z.keep s0), s0 _ _ he, L2.Paired.mapP pe fun _ _ z => toTexts (z.keep s0), asc, by omega, fun q hq => ⟨by rw [(row q hq).1]; exact Nat.le_refl _, by rw [(row q hq).1]; omega⟩, by omega, by omega, bound, ?_, ?_⟩
  · intro i j q w d H' hq hw nb
    exact absurd ((row q (List.mem_of_getElem? hq)).2 w (List.mem_of_getElem? hw)).1 nb
  · intro _ H' kd
    refine ⟨fun big => absurd big (by omega), fun _ ma => q H' (fun b o z => ?_) ma⟩
    exact kd.2 b o (s0 _ _ z) (ne_of_none z hm)
theorem nrm_same {q : List Way} (h : ∀ w ∈ q, kl w.2 = w.2) : nrm q = q := by
  unfold nrm
  conv => rhs; rw [← List.map_id q]
  exact List.map_congr_left fun w hw => by
    unfold nw
    rw [h w hw]
    rfl
theorem map_same {α : Type} {f : α → α} {l : List α} (h : ∀ x ∈ l, f x = x) : l.map f = l := by
  conv => rhs; rw [← List.map_id l]
  exact List.map_congr_left h
end Kx

namespace Kx
open PySem L2 Own
abbrev s_Machine_read : Stmt := inClass (top 27) 1
theorem tellw_one {m : Nat} {z : Str} {i j : Nat} {xs ys : List Str} (h : TellW m z i xs) (g : TellW m z j ys) : i = j ∧ xs = ys := by
  obtain ⟨h1, h2, _⟩ := h
  obtain ⟨g1, g2, _⟩ := g
  rw [h1] at g1
  injection g1 with e1 e2
  exact ⟨num_inj e1, e2⟩
theorem tellw_all {m : Nat} : ∀ {zs : List Str} {ws us : List Way}, Paired (fun z (w : Way) => ∃ i : Nat, w.1 = (i : Nat) ∧ TellW m z i w.2) zs ws → Paired (fun z (w : Way) => ∃ i : Nat, w.1 = (i : Nat) ∧ TellW m z i w.2) zs us → ws = us
  | _, _, _, .nil, .nil => rfl
  | _, _, _, .cons ⟨i, e1, h1⟩ t1, .cons ⟨j, e2, h2⟩ t2 => by
    obtain ⟨rfl, e3⟩ := tellw_one h1 h2
    rw [tellw_all t1 t2]
    congr 1
    exact Prod.ext (e1.trans e2.symm) e3
theorem append_split {α : Type} : ∀ {a b c d : List α}, a.length = c.length → a ++ b = c ++ d → a = c ∧ b = d
  | [], _, [], _, _, h => ⟨rfl, h⟩
  | x :: a, b, y :: c, d, l, h => by
    rw [List.cons_append, List.cons_append] at h
    injection h with h1 h2
    obtain ⟨e1, e2⟩ := append_split (Nat.succ.inj l) h2
    exact ⟨by rw [h1, e1], e2⟩
theorem goodl_one {many m : Nat} {y : Str} {ws us : List Way} {e d : List Str} (h : GoodL many m y ws e) (g : GoodL many m y us d) : ws = us ∧ e = d := by
  obtain ⟨zs, h1, h2, h3, _⟩ := h
  obtain ⟨vs, g1, g2, g3, _⟩ := g
  rw [h1] at g1
  obtain ⟨e1, e2⟩ := append_split (h2.trans g2.symm) g1
  subst e1
  injection e2 with _ e2
  exact ⟨tellw_all h3 g3, e2⟩
theorem goodl_all {many m : Nat} : ∀ {ls : List Str} {rs us : List (List Way × List Str)}, Paired (fun l (x : List Way × List Str) => GoodL many m l x.1 x.2) ls rs → Paired (fun l (x : List Way × List Str) => GoodL many m l x.1 x.2) ls us → rs = us
  | _, _, _, .nil, .nil => rfl
  | _, _, _, .cons h1 t1, .cons h2 t2 => by
    obtain ⟨e1, e2⟩ := goodl_one h1 h2
    rw [goodl_all t1 t2, Prod.ext e1 e2]
theorem paired_right {α β : Type} {F : α → β → Prop} : ∀ {l : List α} {m : List β}, Paired F l m → ∀ y ∈ m, ∃ x ∈ l, F x y
  | _, _, .nil, _, h => absurd h List.not_mem_nil
  | _, _, .cons r t, y, h => by
    rcases List.mem_cons.mp h with rfl | h
    · exact ⟨_, List.mem_cons_self, r⟩
    · obtain ⟨x, hx, z⟩ := paired_right t y h
      exact ⟨x, List.mem_cons_of_mem _ hx, z⟩
theorem goodl_row {many m : Nat} {y : Str} {ws : List Way} {e : List Str} (h : GoodL many m y ws e) : ws.length = many ∧ ∀ w ∈ ws, 0 ≤ w.1 ∧ w.1 < (m : Int) := by
  obtain ⟨zs, h1, h2, h3, _⟩ := h
  refine ⟨(Paired.length h3).symm.trans h2, fun w hw => ?_⟩
  obtain ⟨z, _, i, e1, e2⟩ := paired_right h3 w hw
  have := e2.2.1
  omega
theorem alet_asc : ∀ c ∈ aLet.cps.toList, c < 128 := by decide +kernel
theorem signsOk_asc {sg : Str} (h : signsOk sg = true) : sg.cps.all (· < 128) = true := by
  unfold signsOk at h
  simp only [Bool.and_eq_true, List.all_eq_true, decide_eq_true_eq] at h
  rw [← Array.all_toList, List.all_eq_true]
  exact fun c hc => decide_eq_true (alet_asc c (h.2 c hc))
abbrev keysR (rs : List (List Way × List Str)) : List Str := keysOfRows (rs.map (·.1)) ++ (rs.map (·.2)).flatten
structure TxtRd (K : PySem.W.Frag) (mg : Str → Option Value) (Z : CAd) (mc : Value) (pr g : Addr) (d : FuncData) : Prop where
  r : ClX.CRead K Z.C mc
  c : ClX.CMet K Z.C mc "read" pr g
  F : Fun K "read" "Machine.read" s_Machine_read g d
  b : Binds K d ["cls", "text"] []
section
variable {P : Program} {w : World} {K : PySem.W.Frag} {mg : Str → Option Value} {base : Heap} {L : TAd} {A : EAd} {B : MAd} {Z : CAd} {f1 f2 f3 f4 f : Addr} {d1 d2 d3 d4 d : FuncData} {mc : Value} {pr g C I : Addr} {dg eb : FuncData}
/-- Machine.read(text) -/
def spMRead (A : EAd) (Z : CAd) (C : Addr) : Sp := fun vs H Q E => ∃ (y l0 : Str) (ls : List Str), vs = [.ref Z.C, .str y] ∧ y.cps.size + 2 ≤ sizeLine ∧ Txt.split y "\n" = l0 :: ls ∧ ls.length ≤ 1000 ∧ AskL l0 ∧ (∀ l ∈ ls, AskL l) ∧
  (∀ (n : Nat) (d : Addr) H', Wrong l0 ls n → H d = none → Same H H' → H' d = some (.xd [("line", .int n)]) → E (.ref C) (some d) H') ∧
  ∀ (sg : Str) (rs : List (List Way × List Str)), signsOf l0 = some sg → 1 ≤ ls.length → ls.length ≤ 16 → Paired (fun l (x : List Way × List Str) => GoodL sg.cps.size ls.length l x.1 x.2) ls rs →
    (keysR rs).length + 1 < scanBound ∧
    (12 < (kl (keysR rs)).length → ∀ (d : Addr) H', H d = none → Same H H' → H' d = some (.xd [("what", .str "keys")]) → E (.ref A.c2) (some d) H') ∧
    ((kl (keysR rs)).length ≤ 12 → ∀ (p : Addr) H', H p = none → Same H H' → MachAt Z.C H' p sg ((rs.map (·.1)).map nrm) ((rs.map (·.2)).map kl) → Q (.ref p) H')
theorem sc_mread : FnScope ["cls", "text", "signs", "rows", "ends"] ["cls", "text"] (defScope s_Machine_read) := ⟨rfl, rfl, rfl, by decide +kernel, rfl, by decide +kernel, by decide +kernel⟩
theorem ok_mread (TM : TxtM K mg B) (TE : TxtE K mg A) (TB : TxtBt K mg A C I eb) (TC : TxtC K mg Z) (TP : TxtRp K mg L f1 f2 f3 f4 f d1 d2 d3 d4 d) (TR : TxtRd K mg Z mc pr g dg) : FnOk P w K mg base (L2.CX P w) 7 g dg ["cls", "text"] (spMRead A Z C) := by
  have sc := sc_mread
  have G_parts : FnOk P w K mg base (L2.CX P w) 5 f d ["text"] (spParts C) := ok_parts TE TB TP
  have G_init : FnOk P w K mg base (L2.CX P w) 5 Z.f Z.d ["self", "signs", "rows", "ends"] (spInit K A Z) := ok_init TM TE TC
  refine TR.F.okX sc (fun vs H Q E h => ?_) (fun cdv A1 outer s0 H vs Q E hr h => ?_)
  · obtain ⟨_, _, _, rfl, _⟩ := h; rfl
  · obtain ⟨y, l0, ls, rfl, yl, sp, m1000, a0, als, bad, good⟩ := h
    refine ⟨_, (pss_cons (ps_asg (pe_callS G_parts (hr.mono (by decide)) rfl TP.D_read_parts.g TP.D_read_parts.F.kp TP.D_read_parts.b (fun σ => passAt (takes_of rfl rfl rfl rfl) σ) (pa_cons (pv 1) pa_nil)) (pg_tup rfl (pgs_cons (pg_name (i := 2) sc.nd rfl (Or.inl rfl)) (pgs_cons (pg_name (i := 3) sc.nd rfl (Or.inl rfl)) (pgs_cons (pg_name (i := 4) sc.nd rfl (Or.inl rfl)) pgs_nil)))))
      (pss_one (ps_ret (pe_makeLS (i := 0) TC.make G_init (hr.mono (by decide)) rfl (.inl rfl) TC.b (fun σ => passAt (takes_of rfl rfl rfl rfl) σ) (pa_cons (pv 2) (pa_cons (pv 3) (pa_cons (pv 4) pa_nil))))))), ?_⟩
    refine ⟨_, rfl, y, l0, ls, rfl, yl, sp, m1000, a0, als, bad, fun sg p a b rv ev rs H1 hsg m1 m16 s1 pls hp ha pr1 hb pe1 => ?_⟩
    obtain ⟨bnd, many, few⟩ := good sg rs hsg m1 m16 pls
    have sok := (signsOf_ok hsg).1
    have sg4 := signsOk_four sok
    have lr : rs.length = ls.length := (Paired.length pls).symm
    refine ⟨p, _, rfl, SqT.of hp, rfl, _, _, rfl, _, _, rfl, _, _, rfl, rfl, ?_⟩
    refine ⟨rfl, _, rfl, _, rfl, _, rfl, fun m9 dx9 hm9 hdx9 ne9 => ?_⟩
    have s0 : Same H1 (upd (upd H1 dx9 (.own m9)) m9 (.ins Z.C dx9 [])) := fun b o z => by
      rw [upd_ne (ne_of_none z hm9), upd_ne (ne_of_none z hdx9)]
      exact z
    have rowok : ∀ q ∈ rs.map (·.1), q.length = sg.cps.size ∧ ∀ w ∈ q, Okw (rs.map (·.1)).length w := fun q hq => by
      obtain ⟨x, hx, rfl⟩ := List.mem_map.mp hq
      obtain ⟨l, _, gl⟩ := paired_right pls x hx
      obtain ⟨g1, g2⟩ := goodl_row gl
      refine ⟨g1, fun w hw => ?_⟩
      have := g2 w hw
      refine ⟨this.1, ?_⟩
      rw [List.length_map, lr]
      exact this.2
    refine ⟨m9, a, b, dx9, sg, rv, ev, rs.map (·.1), rs.map (·.2), rfl, upd_same, s0 _ _ ha, L2.Paired.mapP pr1 fun _ _ z => toRow (z.keep s0), s0 _ _ hb, L2.Paired.mapP pe1 fun _ _ z => toTexts (z.keep s0), signsOk_asc sok, by omega, fun q hq => ⟨by rw [(rowok q hq).1]; exact Nat.le_refl _, by rw [(rowok q hq).1]; omega⟩, by rw [List.length_map]; omega, by rw [List.length_map]; omega, bnd, ?_, ?_⟩
    · intro i j q w d H' hq hw nb
      exact absurd ((rowok q (List.mem_of_getElem? hq)).2 w (List.mem_of_getElem? hw)) nb
    · intro _ H' kd
      have back : Same H1 H' := fun b o z => kd.2 b o (s0 _ _ z) (ne_of_none z hm9)
      have sH : Same H H' := fun b o z => back _ _ (s1 _ _ z)
      refine ⟨fun big d hd h' => ?_, fun small ma => ⟨rfl, few small m9 H' (s1.free hm9) sH ma⟩⟩
      refine many big d H' (s1.free ?_) sH h'
      cases z : H1 d with
      | none => rfl
      | some o => rw [s0 _ _ z] at hd; cases hd
end
end Kx

namespace Kx
open PySem L2 Own
theorem eqv_strs_nil (xs : List Str) : PyData.eqv (.list (xs.map PyData.str)) (.list []) = decide (xs = []) := by
  cases xs with
  | nil => rw [List.map_nil, PyData.eqv, PyData.eqvAll]; rfl
  | cons a r => rw [List.map_cons, PyData.eqv, PyData.eqvAll]; rfl
theorem inV_strs (y : Str) (l : List Str) : inV (.str y) (l.map V.str) = decide (y ∈ l) := by
  unfold inV
  induction l with
  | nil => rfl
  | cons a r ih =>
    rw [List.map_cons, List.any_cons, ih]
    show ((a == y) || decide (y ∈ r)) = _
    by_cases e : a = y
    · subst e
      simp
    · have e' : ¬ y = a := fun z => e z.symm
      simp [e, e']
theorem flat_strs (l : List Str) : (l.map V.str).all flatV = true := List.all_eq_true.mpr fun x hx => by
  obtain ⟨y, _, rfl⟩ := List.mem_map.mp hx
  rfl
theorem eqv_map {α : Type} [DecidableEq α] (f : α → PyData) : ∀ (xs ys : List α), (∀ x ∈ xs, ∀ y ∈ ys, PyData.eqv (f x) (f y) = decide (x = y)) → PyData.eqvAll (xs.map f) (ys.map f) = decide (xs = ys)
  | [], [], _ => by rw [List.map_nil, PyData.eqvAll]; rfl
  | [], y :: ys, _ => by rw [List.map_cons, List.map_nil, PyData.eqvAll]; rfl
  | x :: xs, [], _ => by rw [List.map_cons, List.map_nil, PyData.eqvAll]; rfl
  | x :: xs, y :: ys, h => by
    rw [List.map_cons, List.map_cons, PyData.eqvAll, h x List.mem_cons_self y List.mem_cons_self, eqv_map f xs ys fun a ha b hb => h a (List.mem_cons_of_mem _ ha) b (List.mem_cons_of_mem _ hb)]
    by_cases e1 : x = y
    · by_cases e2 : xs = ys
      · subst e1 e2; simp
      · simp [e1, e2]
    · simp [e1]
theorem eqv_str (x y : Str) : PyData.eqv (.str x) (.str y) = decide (x = y) := by
  rw [PyData.eqv]
  by_cases e : x = y
  · subst e; simp
  · rw [decide_eq_false e]
    simpa using e
theorem eqv_int (x y : Int) : PyData.eqv (.int x) (.int y) = decide (x = y) := by
  rw [PyData.eqv]
  by_cases e : x = y
  · subst e; simp
  · rw [decide_eq_false e]
    simpa using e
def keysD (ks : List Str) : PyData := .tuple (ks.map .str)
def wayD (w : Way) : PyData := .tuple [.int w.1, keysD w.2]
def rowD (q : List Way) : PyData := .tuple (q.map wayD)
def rowsD (R : List (List Way)) : PyData := .tuple (R.map rowD)
def endsD (Es : List (List Str)) : PyData := .tuple (Es.map keysD)
theorem eqv_keys (a b : List Str) : PyData.eqv (keysD a) (keysD b) = decide (a = b) := by
  unfold keysD
  rw [PyData.eqv]
  exact eqv_map _ _ _ fun x _ y _ => eqv_str x y
theorem eqv_way (a b : Way) : PyData.eqv (wayD a) (wayD b) = decide (a = b) := by
  unfold wayD
  rw [PyData.eqv, PyData.eqvAll, PyData.eqvAll, PyData.eqvAll, eqv_int, eqv_keys]
  by_cases e1 : a.1 = b.1
  · by_cases e2 : a.2 = b.2
    · have e : a = b := Prod.ext e1 e2
      subst e
      simp
    · have e : a ≠ b := fun z => e2 (z ▸ rfl)
      simp [e1, e2, e]
  · have e : a ≠ b := fun z => e1 (z ▸ rfl)
    simp [e1, e]
theorem eqv_row (a b : List Way) : PyData.eqv (rowD a) (rowD b) = decide (a = b) := by
  unfold rowD
  rw [PyData.eqv]
  exact eqv_map _ _ _ fun x _ y _ => eqv_way x y
theorem eqv_rows (a b : List (List Way)) : PyData.eqv (rowsD a) (rowsD b) = decide (a = b) := by
  unfold rowsD
  rw [PyData.eqv]
  exact eqv_map _ _ _ fun x _ y _ => eqv_row x y
theorem eqv_ends (a b : List (List Str)) : PyData.eqv (endsD a) (endsD b) = decide (a = b) := by
  unfold endsD
  rw [PyData.eqv]
  exact eqv_map _ _ _ fun x _ y _ => eqv_keys x y
/-- all keys are texts that can be laid -/
def KOk (R : List (List Way)) (Es : List (List Str)) : Prop := (∀ y ∈ keysOfRows R, PyData.strOk y = true) ∧ ∀ y ∈ Es.flatten, PyData.strOk y = true
theorem sh_keys {ks : List Str} (h : ∀ y ∈ ks, PyData.strOk y = true) : Sh 1 (keysD ks) := Sh.tup fun x hx => by
  obtain ⟨y, hy, rfl⟩ := List.mem_map.mp hx
  exact Sh.str (h y hy)
theorem Sh.up {n : Nat} {d : PyData} (h : Sh n d) : Sh (n + 1) d := ⟨h.1, Nat.le_succ_of_le h.2⟩
theorem sh_way {w : Way} (h : ∀ y ∈ w.2, PyData.strOk y = true) : Sh 2 (wayD w) := Sh.tup fun x hx => by
  simp only [List.mem_cons, List.not_mem_nil, or_false] at hx
  rcases hx with rfl | rfl
  · exact Sh.int _
  · exact sh_keys h
theorem sh_rows {R : List (List Way)} (h : ∀ y ∈ keysOfRows R, PyData.strOk y = true) : Sh 4 (rowsD R) := Sh.tup fun x hx => by
  obtain ⟨q, hq, rfl⟩ := List.mem_map.mp hx
  refine Sh.tup fun x hx => ?_
  obtain ⟨w, hw, rfl⟩ := List.mem_map.mp hx
  exact sh_way fun y hy => h y (List.mem_flatMap.mpr ⟨q, hq, List.mem_flatMap.mpr ⟨w, hw, hy⟩⟩)
theorem sh_ends {Es : List (List Str)} (h : ∀ y ∈ Es.flatten, PyData.strOk y = true) : Sh 2 (endsD Es) := Sh.tup fun x hx => by
  obtain ⟨q, hq, rfl⟩ := List.mem_map.mp hx
  exact sh_keys fun y hy => h y (List.mem_flatten.mpr ⟨q, hq, hy⟩)
theorem dp_strs (K : PySem.W.Frag) (H : Hp) : ∀ ks : List Str, DpAll K H (ks.map V.str) (ks.map PyData.str)
  | [] => .nil
  | k :: ks => .cons (.str k) (dp_strs K H ks)
theorem dp_map {α : Type} {K : PySem.W.Frag} {H : Hp} {F : V → α → Prop} {f : α → PyData} (h : ∀ v a, F v a → Dp K H v (f a)) : ∀ {vs : List V} {as : List α}, Paired F vs as → DpAll K H vs (as.map f)
  | _, _, .nil => .nil
  | _, _, .cons r t => .cons (h _ _ r) (dp_map h t)
theorem dp_keys {K : PySem.W.Frag} {H : Hp} {v : V} {ks : List Str} (h : KeysT H v ks) : Dp K H v (keysD ks) := by
  obtain ⟨a, rfl, h⟩ := h
  exact .tup (SqT.of h) (dp_strs K H ks)
theorem dp_way {K : PySem.W.Frag} {H : Hp} {v : V} {w : Way} (h : WayT H v w) : Dp K H v (wayD w) := by
  obtain ⟨a, kv, rfl, h, k⟩ := h
  exact .tup (SqT.of h) (.cons (.int _) (.cons (dp_keys k) .nil))
theorem dp_row {K : PySem.W.Frag} {H : Hp} {v : V} {q : List Way} (h : RowT H v q) : Dp K H v (rowD q) := by
  obtain ⟨a, vs, rfl, h, k⟩ := h
  exact .tup (SqT.of h) (dp_map (fun _ _ z => dp_way z) k)
end Kx

namespace Kx
open PySem L2 Own
abbrev s__law_are_keys : Stmt := top 37
structure TxtLk (K : PySem.W.Frag) (mg : Str → Option Value) (f : Addr) (d : FuncData) : Prop where
  D__law_are_keys : DefT K mg "_law_are_keys" "_law_are_keys" s__law_are_keys ["words"] f d
  n_len : mg "len" = none
  n_set : mg "set" = none
section
variable {P : Program} {w : World} {K : PySem.W.Frag} {mg : Str → Option Value} {base : Heap} {f : Addr} {d : FuncData}
/-- a sign that does not stand in a text -/
def rNiS : R2 := fun x y H Q => ∃ (c : Nat) (z : Str), x = .str ⟨#[c]⟩ ∧ y = .str z ∧ Q (.bl (!decide (c ∈ z.cps.toList))) H
/-- short texts -/
def ShW (ks : List Str) : Prop := ∀ y ∈ ks, y.length ≤ 1000 ∧ PyData.strOk y = true
def spLKeys : Sp := fun vs H Q _ => ∃ (q : Addr) (ks : List Str), vs = [.ref q] ∧ H q = some (.lst (ks.map V.str)) ∧ ks.length + 1 < scanBound ∧ ShW ks ∧ ∀ H', Same H H' → Q (.bl (keysOk ks)) H'
abbrev Nlk : List Str := ["words", "signs", "word", "sign"]
theorem sc_lkeys : FnScope Nlk ["words"] (defScope s__law_are_keys) := ⟨rfl, rfl, rfl, by decide +kernel, rfl, by decide +kernel, by decide +kernel⟩
theorem ok_lkeys (T : TxtLk K mg f d) : FnOk P w K mg base CX0 1 f d ["words"] spLKeys := by
  have sc := sc_lkeys
  refine T.D__law_are_keys.F.ok sc (fun vs H Q E h => ?_) (fun cdv A1 outer s0 H vs Q E hr h => ?_)
  · obtain ⟨_, _, rfl, _⟩ := h; rfl
  · obtain ⟨q, ks, rfl, hq, kl1, km, k⟩ := h
    refine ⟨_, (pss_cons (ps_set (i := 1) sc.nd rfl (Or.inr rfl) pe_str)
      (pss_cons (ps_for PassesOwn.never rfl (pi_list (pv 0)) (pg_name (i := 2) sc.nd rfl (Or.inl rfl))
        (pss_one (ps_if (PW.pt (pw_or (pt_not (pt_chain op_lt op_lt pe_int (pe_callB call_len (by rfl) T.n_len (by decide +kernel) (pa_cons (pv 2) pa_nil)) pe_int))
          (pw_or1 (pt_cmpR (op_neD hr.units) (pe_lc (own := [("sign", 3)]) (g := gName 3) (tt := tTest (tOp rNiS (tVar 3) (tVar 1))) (te := tVar 3) rfl sc.nd (pi_str (pv 2)) (blkOk_by (N := Nlk) (sc := defScope s__law_are_keys) (own := [("sign", 3)]) (by decide +kernel))
            (fun _ _ _ _ _ => (pg_name (i := 3) sc.nd rfl (Or.inl rfl))) (fun _ _ _ _ _ => pts_one (pt_cmpR op_notIn_sign (pv 3) (pv 1) (by rfl))) (fun _ _ _ _ _ => pv 3)) (pe_lst pa_nil) (nomark _))))) (pss_one (ps_ret pe_bl)) pss_nil)))
      (pss_one (ps_ret (pe_cmpR op_eq (pe_callB cr_lenT (by rfl) T.n_len (by decide +kernel) (pa_cons (pe_callTy (cr_setT rfl) (by rfl) T.n_set (by decide +kernel) (pa_cons (pv 0) pa_nil)) pa_nil)) (pe_callB call_len (by rfl) T.n_len (by decide +kernel) (pa_cons (pv 0) pa_nil)) (nomark _)))))), ?_⟩
    refine ⟨_, rfl, q, rfl, ⟨_, SqL.of hq⟩, ?_⟩
    refine for_it walk_list (fun i σ H' => (∃ x2, σ = [some (.ref q), some (.str kLet), x2, none]) ∧ Same H H' ∧ ∀ y ∈ ks.take i, keyOk y = true) ⟨⟨_, rfl⟩, Same.refl _, fun y h => nomatch h⟩ (fun i _ H' _ z => SqL.of (z.2.1 _ _ hq)) ?_ ?_
    · rintro i x σ _ H1 hi ⟨⟨x2, rfl⟩, s1, g1⟩ ⟨rfl, hx⟩
      rw [List.getElem?_map] at hx
      obtain ⟨y, hy, rfl⟩ := Option.map_eq_some_iff.mp hx
      obtain ⟨y1, y2⟩ := km y (List.mem_of_getElem? hy)
      have yz : y.cps.size ≤ 1000 := y1
      have no : keyOk y = false → Q (.bl false) H1 := fun e => by
        have : keysOk ks = false := by
          unfold keysOk
          rw [Bool.and_eq_false_iff]
          right
          rw [List.all_eq_false]
          exact ⟨y, List.mem_of_getElem? hy, by rw [e]; simp⟩
        rw [this] at k
        exact k H1 s1
      refine ⟨_, rfl, .str y, y.cps.size, rfl, ⟨by show y.cps.size ≤ _; rw [sizeLine_eq]; omega, rfl⟩, _, _, rfl, rfl, _, rfl, ?_⟩
      by_cases c1 : y.cps.size < 1
      · rw [decide_eq_false (by omega : ¬ (0 : Int) < (y.cps.size : Int))]
        refine iteF ⟨_, rfl, ?_⟩
        refine no ?_
        unfold keyOk
        rw [decide_eq_true c1]
        rfl
      rw [decide_eq_true (by omega : (0 : Int) < (y.cps.size : Int))]
      refine iteT ⟨_, _, rfl, rfl, _, rfl, ?_⟩
      by_cases c2 : 12 < y.cps.size
      · rw [decide_eq_false (by omega : ¬ (y.cps.size : Int) < 13)]
        refine no ?_
        unfold keyOk
        rw [decide_eq_true c2]
        simp
      rw [decide_eq_true (by omega : (y.cps.size : Int) < 13)]
      -- the strange signs
      refine ⟨_, rfl, y, rfl, fun D hD => ?_⟩
      refine lcs_it [some (.ref q), some (.str kLet), some (.str y), none] rfl walk_str (fun j H' => Same H1 H' ∧ H' D = some (.lst ((((y.cps.toList.take j).filter fun c => !decide (c ∈ kLet.cps.toList)).map Froz.sing).map V.str))) ⟨Same.upd hD, upd_same⟩ (fun _ _ _ _ => trivial) ?_ ?_
      · rintro j x _ H2 hj ⟨s2, h2⟩ ⟨rfl, c, hc, rfl⟩
        have hct : y.cps.toList[j]? = some c := by rw [Array.getElem?_toList]; exact hc
        have tk : y.cps.toList.take (j + 1) = y.cps.toList.take j ++ [c] := by rw [List.take_add_one, hct]; rfl
        refine ⟨rfl, _, rfl, _, rfl, c, kLet, rfl, rfl, _, rfl, ?_⟩
        by_cases cm : c ∈ kLet.cps.toList
        · rw [decide_eq_true cm]
          refine ⟨s2, ?_⟩
          have e9 : ([c] : List Nat).filter (fun c => !decide (c ∈ kLet.cps.toList)) = [] := by rw [List.filter_cons, decide_eq_true cm]; rfl
          rw [tk, List.filter_append, e9, List.append_nil]
          exact h2
        · rw [decide_eq_false cm]
          refine ⟨_, rfl, _, h2, ?_, fun b o z => ?_, ?_⟩
          · rw [List.length_map, List.length_map, sizeLine_eq]
            have := List.length_filter_le (fun c => !decide (c ∈ kLet.cps.toList)) (y.cps.toList.take j)
            rw [List.length_take] at this
            omega
          · rw [upd_ne (ne_of_none z hD)]
            exact s2 _ _ z
          · have e9 : ([c] : List Nat).filter (fun c => !decide (c ∈ kLet.cps.toList)) = [c] := by rw [List.filter_cons, decide_eq_false cm]; rfl
            rw [upd_same, tk, List.filter_append, e9, List.map_append, List.map_append]
            rfl
      rintro H2 ⟨s2, h2⟩
      have eT : y.cps.toList.take y.cps.size = y.cps.toList := List.take_of_length_le (by simp)
      rw [eT] at h2
      refine ⟨by decide, fun e0 he0 => ?_⟩
      have okc : ∀ c ∈ y.cps.toList, c < 1114112 := fun c hc => by
        unfold PyData.strOk at y2
        rw [← Array.all_toList, List.all_eq_true] at y2
        exact of_decide_eq_true (y2 c hc)
      refine ⟨.list (((y.cps.toList.filter fun c => !decide (c ∈ kLet.cps.toList)).map Froz.sing).map PyData.str), .list [], .lst (SqL.of (Same.upd he0 _ _ h2)) (dp_strs K _ _), .lst (SqL.of upd_same) .nil, (Sh.list (n := 0) fun x hx => ?_).ok (by decide), (Sh.list (n := 0) fun x hx => by cases hx).ok (by decide), _, rfl, ?_⟩
      · obtain ⟨z, hz, rfl⟩ := List.mem_map.mp hx
        obtain ⟨c, hc, rfl⟩ := List.mem_map.mp hz
        refine Sh.str ?_
        show (#[c] : Array Nat).all (· < 0x110000) = true
        have := okc c (List.mem_filter.mp hc).1
        simpa using this
      rw [eqv_strs_nil]
      have s3 : Same H (upd H2 e0 (.lst [])) := fun b o z => Same.upd he0 _ _ (s2 _ _ (s1 _ _ z))
      by_cases cx : ∀ c ∈ y.cps.toList, c ∈ kLet.cps.toList
      · have e0' : (y.cps.toList.filter fun c => !decide (c ∈ kLet.cps.toList)).map Froz.sing = [] := by
          rw [List.map_eq_nil_iff, List.filter_eq_nil_iff]
          intro c hc
          simp [cx c hc]
        refine ifFn e0' ⟨⟨_, rfl⟩, s3, fun z hz => ?_⟩
        rw [List.take_add_one, hy] at hz
        rcases List.mem_append.mp hz with hz | hz
        · exact g1 z hz
        · obtain rfl : z = y := by simpa using hz
          unfold keyOk
          rw [decide_eq_false c1, decide_eq_false c2]
          simp only [Bool.not_false, Bool.true_and, List.all_eq_true, decide_eq_true_eq]
          exact cx
      · have e0' : ¬ (y.cps.toList.filter fun c => !decide (c ∈ kLet.cps.toList)).map Froz.sing = [] := fun e => cx fun c hc => by
          rw [List.map_eq_nil_iff, List.filter_eq_nil_iff] at e
          simpa using e c hc
        refine ifTn e0' ?_
        have e : keyOk y = false := by
          unfold keyOk
          rw [Bool.and_eq_false_iff]
          right
          rw [List.all_eq_false]
          by_cases c : ∃ c ∈ y.cps.toList, c ∉ kLet.cps.toList
          · obtain ⟨c, hc, nc⟩ := c
            exact ⟨c, hc, by simp [nc]⟩
          · exact absurd (fun a ha => Classical.byContradiction fun z => c ⟨a, ha, z⟩) cx
        have : keysOk ks = false := by
          unfold keysOk
          rw [Bool.and_eq_false_iff]
          right
          rw [List.all_eq_false]
          exact ⟨y, List.mem_of_getElem? hy, by rw [e]; simp⟩
        rw [this] at k
        exact k _ s3
    · rintro σ H1 ⟨⟨x2, rfl⟩, s1, g1⟩
      rw [List.length_map, List.take_length] at g1
      have eb : scanBound = 4096 := rfl
      refine ⟨_, rfl, .ref q, ks, rfl, .list (SqL.of (s1 _ _ hq)), kl1, fun p4 l4 hp4 nd4 hm4 hl4 => ?_⟩
      refine ⟨p4, l4, rfl, upd_same, by omega, ?_⟩
      have h4 := Same.upd (o := SetT P w p4 l4) hp4
      refine ⟨_, rfl, .ref q, ks.length, rfl, .inl ⟨_, SqL.of (h4 _ _ (s1 _ _ hq)), by rw [List.length_map]⟩, rfl, ?_⟩
      have ed : decide (V.int (l4.length : Nat) = V.int (ks.length : Nat)) = keysOk ks := by
        have e2 : ks.all keyOk = true := List.all_eq_true.mpr g1
        unfold keysOk
        rw [e2, Bool.and_true, decide_eq_decide]
        exact ⟨fun z => (nodup_len nd4 hm4).mp (Int.ofNat.inj (V.int.inj z)), fun z => by rw [(nodup_len nd4 hm4).mpr z]⟩
      rw [ed]
      exact k _ fun b o z => h4 _ _ (s1 _ _ z)
end
end Kx

namespace Kx
open PySem L2 Own
abbrev s__law_way : Stmt := top 38
/-! ### the parts of a text that is split at a sign -/
theorem spl_facts (s : Nat) : ∀ (l acc : List Nat), TL.spl [s] 0 acc l ≠ [] ∧ (∀ p ∈ TL.spl [s] 0 acc l, p.length ≤ acc.length + l.length ∧ ∀ c ∈ p, c ∈ acc ∨ c ∈ l) ∧ ((TL.spl [s] 0 acc l).map fun p => p.length + 1).sum = acc.length + l.length + 1
  | [], acc => by
    rw [TL.spl_nil]
    refine ⟨by simp, fun p hp => ?_, by simp⟩
    rw [List.mem_singleton.mp hp]
    exact ⟨by simp, fun c hc => .inl hc⟩
  | c :: r, acc => by
    cases h : TL.pre [s] (c :: r) with
    | true =>
      rw [TL.spl_hit h]
      show acc :: TL.spl [s] 0 [] r ≠ [] ∧ _
      obtain ⟨_, h2, h3⟩ := spl_facts s r []
      refine ⟨by simp, fun p hp => ?_, ?_⟩
      · rcases List.mem_cons.mp hp with rfl | hp
        · exact ⟨by omega, fun c hc => .inl hc⟩
        · obtain ⟨q1, q2⟩ := h2 p hp
          refine ⟨by rw [List.length_cons]; simp at q1; omega, fun d hd => .inr (List.mem_cons_of_mem _ ?_)⟩
          rcases q2 d hd with z | z
          · cases z
          · exact z
      · show ((acc :: TL.spl [s] 0 [] r).map fun p => p.length + 1).sum = _
        rw [List.map_cons, List.sum_cons, h3, List.length_cons]
        simp
        omega
    | false =>
      rw [TL.spl_miss h]
      obtain ⟨h1, h2, h3⟩ := spl_facts s r (acc ++ [c])
      refine ⟨h1, fun p hp => ?_, ?_⟩
      · obtain ⟨q1, q2⟩ := h2 p hp
        refine ⟨by rw [List.length_append] at q1; simp at q1; rw [List.length_cons]; omega, fun d hd => ?_⟩
        rcases q2 d hd with z | z
        · rcases List.mem_append.mp z with z | z
          · exact .inl z
          · rw [List.mem_singleton.mp z]
            exact .inr List.mem_cons_self
        · exact .inr (List.mem_cons_of_mem _ z)
      · rw [h3, List.length_append, List.length_cons]
        simp
        omega
/-- what is known of the parts -/
structure Parts (z : Str) (ps : List Str) : Prop where
  ne : ps ≠ []
  len : ∀ p ∈ ps, p.length ≤ z.length ∧ ∀ c ∈ TL.tl p, c ∈ TL.tl z
  sum : (ps.map fun p => p.length + 1).sum = z.length + 1
theorem split_facts {z y : Str} {s : Nat} (ey : TL.tl y = [s]) (hk : y.cps.all (· < 256) = true) : Parts z (Txt.split z y) := by
  have e := TL.split_spl z y (by rw [ey]; simp) (TL.kind_ok hk)
  rw [ey] at e
  obtain ⟨h1, h2, h3⟩ := spl_facts s (TL.tl z) []
  rw [← e] at h1 h2 h3
  refine ⟨fun c => h1 (by rw [c]; rfl), fun p hp => ?_, ?_⟩
  · obtain ⟨q1, q2⟩ := h2 (TL.tl p) (List.mem_map_of_mem hp)
    rw [← TL.len_tl, ← TL.len_tl] at q1
    refine ⟨by simpa using q1, fun c hc => ?_⟩
    rcases q2 c hc with w | w
    · cases w
    · exact w
  · rw [List.map_map] at h3
    have e1 : (Txt.split z y).map ((fun p : List Nat => p.length + 1) ∘ TL.tl) = (Txt.split z y).map fun p => p.length + 1 := List.map_congr_left fun p _ => by
      show (TL.tl p).length + 1 = _
      rw [← TL.len_tl]
    rw [e1, ← TL.len_tl] at h3
    simpa using h3
theorem len_le_sum : ∀ ps : List Str, ps.length ≤ (ps.map fun p => p.length + 1).sum
  | [] => Nat.zero_le _
  | p :: r => by
    have := len_le_sum r
    rw [List.map_cons, List.sum_cons, List.length_cons]
    omega
theorem ok_sub {z p : Str} (h : PyData.strOk z = true) (s : ∀ c ∈ TL.tl p, c ∈ TL.tl z) : PyData.strOk p = true := by
  unfold PyData.strOk at h ⊢
  rw [← Array.all_toList, List.all_eq_true] at h ⊢
  exact fun c hc => h c (s c hc)
structure TxtLw (K : PySem.W.Frag) (mg : Str → Option Value) (fk f : Addr) (dk d : FuncData) : Prop where
  k : TxtLk K mg fk dk
  D__law_way : DefT K mg "_law_way" "_law_way" s__law_way ["word", "many"] f d
  n_range : mg "range" = none
  n_str : mg "str" = none
  n_int : mg "int" = none
  n_tuple : mg "tuple" = none
  n_sorted : mg "sorted" = none
section
variable {P : Program} {w : World} {K : PySem.W.Frag} {mg : Str → Option Value} {base : Heap} {fk f : Addr} {dk d : FuncData}
/-- what the law tells of a word -/
def WayL (m : Nat) (z : Str) (H : Hp) (v : V) : Prop := (v = .non ∧ ¬ ∃ i us, TellW m z i us) ∨ ∃ (i : Nat) (us : List Str), TellW m z i us ∧ WayT H v ((i : Int), kl us)
def spLWay : Sp := fun vs H Q _ => ∃ (z : Str) (m : Nat), vs = [.str z, .int m] ∧ z.length ≤ 50 ∧ PyData.strOk z = true ∧ m ≤ 1000 ∧ ∀ v H', Same H H' → WayL m z H' v → Q v H'
abbrev Nlw : List Str := ["word", "many", "cut", "state"]
theorem sc_lway : FnScope Nlw ["word", "many"] (defScope s__law_way) := ⟨rfl, rfl, rfl, by decide +kernel, rfl, by decide +kernel, by decide +kernel⟩
theorem num_log {i : Nat} (h : i ≤ 1000) : ((i : Nat) : Int).natAbs.log2 < 1920 := Nat.lt_of_le_of_lt (Nat.log2_le_self _) (by omega)
theorem ok_lway (T : TxtLw K mg fk f dk d) : FnOk P w K mg base CX0 2 f d ["word", "many"] spLWay := by
  have sc := sc_lway
  have G_keys : FnOk P w K mg base CX0 1 fk dk ["words"] spLKeys := ok_lkeys T.k
  refine T.D__law_way.F.ok sc (fun vs H Q E h => ?_) (fun cdv A1 outer s0 H vs Q E hr h => ?_)
  · obtain ⟨_, _, rfl, _⟩ := h; rfl
  · obtain ⟨z, m, rfl, zl, zo, m1000, k⟩ := h
    have KEYS : ∀ {X : Prop}, X → X := fun x => x
    refine ⟨_, (pss_cons (ps_set (i := 2) sc.nd rfl (Or.inl rfl) (pe_split (pv 0) pe_str))
      (pss_cons (ps_if (PW.pt (pw_or (pt_cmpR op_notIn_seq (pe_ix ix_list (pv 2) pe_int (fun _ _ => rfl)) (pe_lc (own := [("state", 3)]) (g := gName 3) (tt := tYes) (te := tCB rStrI (tCons (tVar 3) tNil)) rfl sc.nd (pi_range1 rfl T.n_range (pa_cons (pv 1) pa_nil)) (blkOk_by (N := Nlw) (sc := defScope s__law_way) (own := [("state", 3)]) (by decide +kernel))
          (fun _ _ _ _ _ => (pg_name (i := 3) sc.nd rfl (Or.inl rfl))) (fun _ _ _ _ _ => pts_nil) (fun _ _ _ _ _ => pe_callTy call_str_int (by rfl) T.n_str (by decide +kernel) (pa_cons (pv 3) pa_nil))) (by rfl))
        (pw_or1 (pt_not (pt_val (pe_call G_keys (hr.mono (by decide)) rfl T.k.D__law_are_keys.g T.k.D__law_are_keys.F.kp T.k.D__law_are_keys.b .nil pass0 (pa_cons (pe_slice sl_list (pv 2) (po_some pe_int) po_none) pa_nil))))))) (pss_one (ps_ret pe_non)) pss_nil)
      (pss_one (ps_ret (pe_tup (pa_cons (pe_callTy call_int_str (by rfl) T.n_int (by decide +kernel) (pa_cons (pe_ix ix_list (pv 2) pe_int (fun _ _ => rfl)) pa_nil))
        (pa_cons (pe_tupleOf rfl T.n_tuple (pe_callB cr_sortedS (by rfl) T.n_sorted (by decide +kernel) (pa_cons (pe_slice sl_list (pv 2) (po_some pe_int) po_none) pa_nil))) pa_nil))))))), ?_⟩
    have zs : z.cps.size ≤ 50 := zl
    refine ⟨_, rfl, ⟨_, rfl⟩, z, "+", rfl, rfl, by decide, by show z.cps.size + 2 ≤ _; rw [sizeLine_eq]; omega, fun q hq => ?_⟩
    obtain ⟨p1, p2, p3⟩ : Parts z (Txt.split z "+") := split_facts (s := 43) rfl (by decide +kernel)
    generalize hsp : Txt.split z "+" = ps at p1 p2 p3 ⊢
    have pl : ps.length ≤ 51 := Nat.le_trans (len_le_sum ps) (by rw [p3]; omega)
    obtain ⟨x, xs, rfl⟩ : ∃ x xs, ps = x :: xs := by
      cases ps with
      | nil => exact absurd rfl p1
      | cons a r => exact ⟨a, r, rfl⟩
    rw [List.length_cons] at pl
    have s1 := Same.upd (o := .lst ((x :: xs).map V.str)) hq
    have h1 : (upd H q (.lst ((x :: xs).map V.str))) q = some (.lst ((x :: xs).map V.str)) := upd_same
    generalize upd H q (.lst ((x :: xs).map V.str)) = H1 at s1 h1 ⊢
    have i0 : atI ((x :: xs).map V.str) 0 = some (.str x) := atI_nat (j := 0) rfl
    have cut : cutV ((x :: xs).map V.str) (some 1) none = xs.map V.str := by
      have := cut_after (x :: xs) 1 (by simp)
      rw [show ((1 : Nat) : Int) = (1 : Int) from rfl] at this
      rw [this]
      rfl
    have shx : ShW xs := fun y hy => ⟨by have := (p2 y (List.mem_cons_of_mem _ hy)).1; omega, ok_sub zo (p2 y (List.mem_cons_of_mem _ hy)).2⟩
    have eb : scanBound = 4096 := rfl
    -- cut[0] not in the numbers
    refine ⟨_, rfl, q, _, 0, _, rfl, rfl, SqL.of h1, i0, _, rfl, m, rfl, by omega, by omega, fun D hD => ?_⟩
    rw [Int.toNat_natCast]
    refine lcs_it [some (.str z), some (.int m), some (.ref q), none] rfl walk_range (fun i H' => Same H1 H' ∧ H' D = some (.lst (((List.range i).map fun i : Nat => numT i).map V.str))) ⟨Same.upd hD, upd_same⟩ (fun _ _ _ _ => trivial) ?_ ?_
    · rintro i u _ H2 hi ⟨s2, h2⟩ ⟨rfl, ex⟩
      have ex2 : u = V.int (i : Nat) := by
        rw [ex]
        show V.int (0 + (i : Int)) = _
        rw [Int.zero_add]
      clear ex
      subst ex2
      refine ⟨rfl, _, rfl, (i : Nat), rfl, num_log (by omega), _, h2, ?_, fun b o y => ?_, ?_⟩
      · rw [List.length_map, List.length_map, List.length_range, sizeLine_eq]
        omega
      · rw [upd_ne (ne_of_none y hD)]
        exact s2 _ _ y
      · rw [upd_same, List.range_succ, List.map_append, List.map_append]
        rfl
    rintro H2 ⟨s2, h2⟩
    have h12 := s2 _ _ h1
    have s12 : Same H H2 := fun b o y => s2 _ _ (s1 _ _ y)
    have no : ∀ {H'}, Same H H' → ((∀ i, i < m → numT i ≠ x) ∨ keysOk xs = false) → Q .non H' := fun {H'} s h => k .non H' s (.inl ⟨rfl, fun ⟨i, us, g1, g2, g3⟩ => by
      rw [hsp] at g1
      injection g1 with e1 e2
      subst e1 e2
      rcases h with h | h
      · exact h i g2 rfl
      · rw [h] at g3
        cases g3⟩)
    refine ⟨D, _, rfl, .inl (SqL.of h2), rfl, flat_strs _, _, rfl, ?_⟩
    rw [show (if true = true then !inV (V.str x) (((List.range m).map fun i : Nat => numT i).map V.str) else inV (V.str x) (((List.range m).map fun i : Nat => numT i).map V.str)) = !decide (x ∈ (List.range m).map fun i : Nat => numT i) by rw [if_pos rfl, inV_strs]]
    by_cases cx : x ∈ (List.range m).map fun i : Nat => numT i
    · refine ifFn cx ?_
      obtain ⟨i, hi, ei⟩ := List.mem_map.mp cx
      have im := List.mem_range.mp hi
      refine ⟨_, rfl, _, rfl, q, _, rfl, SqL.of h12, fun l hl => ?_⟩
      rw [cut]
      refine ⟨l, xs, rfl, upd_same, by omega, shx, fun H3 s3 => ?_⟩
      have s13 : Same H H3 := fun b o y => s3 _ _ (Same.upd hl _ _ (s12 _ _ y))
      have h13 := s3 _ _ (Same.upd hl _ _ h12)
      refine ⟨_, rfl, ?_⟩
      cases ek : keysOk xs with
      | false => exact no s13 (.inr ek)
      | true =>
        have nd : xs.Nodup := by
          unfold keysOk at ek
          rw [Bool.and_eq_true] at ek
          exact of_decide_eq_true ek.1
        have lx : (TL.numL i).length ≤ 640 := by
          have := (p2 x List.mem_cons_self).1
          rw [← ei, TL.len_tl, TL.tl_num] at this
          omega
        refine ⟨_, rfl, q, _, 0, _, rfl, rfl, SqL.of h13, i0, x, i, rfl, ?_, ?_, ?_⟩
        · rw [← ei]
          exact TL.int_num (by omega)
        · rw [← ei, TL.len_tl, TL.tl_num]
          exact lx
        refine ⟨_, rfl, _, rfl, q, _, rfl, SqL.of h13, fun l2 hl2 => ?_⟩
        rw [cut]
        refine ⟨l2, xs, rfl, SqL.of upd_same, by omega, fun ys p6 pm srt hp6 => ?_⟩
        have ey : ys = kl xs := kl_of pm srt nd fun y => Iff.rfl
        subst ey
        refine .inl ⟨p6, _, rfl, SqL.of upd_same, fun t ht => ?_⟩
        refine ⟨by show 2 ≤ sizeLine; decide, fun t2 ht2 => ?_⟩
        refine k _ _ (fun b o y => Same.upd ht2 _ _ (Same.upd ht _ _ (Same.upd hp6 _ _ (Same.upd hl2 _ _ (s13 _ _ y))))) (.inr ⟨i, xs, ⟨by rw [hsp, ei], im, ek⟩, t2, .ref t, rfl, upd_same, t, rfl, Same.upd ht2 _ _ upd_same⟩)
    · refine ifTn cx ?_
      exact no s12 (.inl fun i hi e => cx (List.mem_map.mpr ⟨i, List.mem_range.mpr hi, e⟩))
end
end Kx

namespace Own
open PySem PySem.Spec L2 PyProof.Rows PySem.Froz
/-- a list's object -/
abbrev lob (ys : List Value) (c : Nat) : Obj := { cls := .type "list", data := .seq ys.toArray c }
section
variable {P : Program} {w : World} {A : Around} {R : Result → Shared → Prop} {I : Addr} {fp wr : List Addr} {n : Nat} {Pv : Nat → Value → Prop} {St : Nat → Heap → Prop}
/-- sum(lists, start): one list more at each turn -/
theorem sum_go (W : Walks P w A.in1 I fp wr n Pv St) (S : Addr) (nS : S ∉ fp) (h0 : Heap) (z0 : h0.objs.size ≤ S) (wS : ∀ b ∈ wr, b < S) (w0 : ∀ b ∈ wr, h0.get? b = none) (yss : List (List Value)) (tot : yss.length = n)
    (its : ∀ i v, Pv i v → ∃ b ys c, v = .ref b ∧ yss[i]? = some ys ∧ h0.get? b = some (lob ys c)) :
    ∀ (k i : Nat) (s : Shared) (t : Addr) (T : List Value) (c ct : Nat), i + k = n → St i s.heap → (∀ b u, h0.get? b = some u → s.heap.get? b = some u) → s.heap.get? S = some (lob [.ref t] c) → s.heap.get? t = some (lob T ct) →
      t ∉ wr → t ≠ S → T.length + (yss.drop i).flatten.length ≤ sizeLine →
      (∀ h' tk p c', (∀ b u, h0.get? b = some u → h'.get? b = some u) → (p = t ∧ k = 0 ∨ h0.objs.size ≤ p) → h'.get? p = some (lob (T ++ (yss.drop i).flatten) c') → R (.ok (.ret (.ref p))) { s with heap := h', toks := tk }) →
      codeAny (model P w) A (.builtin "sum.loop" ⟨[.ref I, .ref S, rawInt 2, rawInt 0], []⟩) R s
  | 0, i, s, t, T, c, ct, hk, st, old, hS, hT, tw, tS, big, q => by
    have e : i = n := by omega
    subst e
    refine codeAny_builtin PySem.F.entry_sum_loop ?_
    rw [Around.under_plainId PySem.F.plain_sum_loop _]
    show wpAny (model P w) A.in1 (seqItems? (.ref S) >>= _) _ _ s
    refine wpAny_bind (wpAny_seqItems hS rfl ?_)
    show wpAny (model P w) A.in1 (tryCatch (pyNext (.ref I)) _ >>= _) _ _ s
    refine wpAny_bind (wpAny_tryCatch (W.done s _ _ st fun h' tk kk => ?_))
    refine wpAny_pure (q h' tk t ct (fun b u z => kk b u (fun m => by rw [w0 b m] at z; cases z) (old b u z)) (.inl ⟨rfl, rfl⟩) ?_)
    rw [← tot, List.drop_length, List.flatten_nil, List.append_nil]
    exact kk t _ tw hT
  | k + 1, i, s, t, T, c, ct, hk, st, old, hS, hT, tw, tS, big, q => by
    have lt : i < n := by omega
    refine codeAny_builtin PySem.F.entry_sum_loop ?_
    rw [Around.under_plainId PySem.F.plain_sum_loop _]
    show wpAny (model P w) A.in1 (seqItems? (.ref S) >>= _) _ _ s
    refine wpAny_bind (wpAny_seqItems hS rfl ?_)
    show wpAny (model P w) A.in1 (tryCatch (pyNext (.ref I)) _ >>= _) _ _ s
    refine wpAny_bind (wpAny_tryCatch (W.item i s _ _ lt st fun v h' tk hv st' kk => ?_))
    obtain ⟨b, ys, cb, rfl, hy, hb⟩ := its i v hv
    have Sw : S ∉ wr := fun m => Nat.lt_irrefl _ (wS S m)
    have hS1 := kk S _ Sw hS
    have hT1 := kk t _ tw hT
    have hb1 := kk b _ (fun m => by rw [w0 b m] at hb; cases hb) (old b _ hb)
    have lS := Heap.lt_size hS1
    have sp : (yss.drop i).flatten = ys ++ (yss.drop (i + 1)).flatten := by
      obtain ⟨j, e⟩ := List.getElem?_eq_some_iff.mp hy
      rw [List.drop_eq_getElem_cons j, e, List.flatten_cons]
    rw [sp, List.length_append] at big
    show wpAny (model P w) A.in1 ((holding [Value.ref b] (binaryOp .Add (.ref t) (.ref b))).attempt >>= _) _ _ _
    refine wpAny_bind (wpAny_attempt (wpAny_holding (PySem.P.add_list hT1 hb1 ?_ (by rw [List.size_toArray, List.size_toArray]; omega))))
    have ea : T.toArray ++ ys.toArray = (T ++ ys).toArray := by simp
    rw [ea]
    have hS2 : (h'.push (lob (T ++ ys) 0)).get? S = some (lob [.ref t] c) := Heap.get?_push_of_some _ hS1
    show wpAny (model P w) A.in1 (updateSeq S (fun _ => #[.ref h'.objs.size]) >>= _) _ _ _
    refine wpAny_bind (wpAny_updateSeq hS2 rfl ?_)
    have hS3 := Heap.get?_update_self (Obj.mapSeq fun _ => #[Value.ref h'.objs.size]) hS2 rfl
    refine wpAny_bind (wpAny_letGo ?_)
    have nw : h'.objs.size ≠ S := Nat.ne_of_gt lS
    have oth : ∀ b u, b ≠ S → h'.get? b = some u → (((h'.push (lob (T ++ ys) 0)).update S (Obj.mapSeq fun _ => #[Value.ref h'.objs.size])).update S (Obj.mapSeq fun _ => #[Value.ref h'.objs.size])).get? b = some u := fun b u nb e =>
      (Heap.get?_update_other _ _ (Ne.symm nb)).trans ((Heap.get?_update_other _ _ (Ne.symm nb)).trans (Heap.get?_push_of_some _ e))
    have hn : (((h'.push (lob (T ++ ys) 0)).update S (Obj.mapSeq fun _ => #[Value.ref h'.objs.size])).update S (Obj.mapSeq fun _ => #[Value.ref h'.objs.size])).get? h'.objs.size = some (lob (T ++ ys) 0) :=
      (Heap.get?_update_other _ _ (Ne.symm nw)).trans ((Heap.get?_update_other _ _ (Ne.symm nw)).trans (Heap.get?_push_size _ rfl))
    refine wpAny_bind (wpAny_updateSeq hS3 rfl (wpAny_pure ⟨plainId_quiet PySem.F.plain_sum_loop _, ?_⟩))
    refine sum_go W S nS h0 z0 wS w0 yss tot its k (i + 1) _ h'.objs.size (T ++ ys) _ 0 (by omega) (W.frame _ _ _ st' fun b hb o e => ?_) (fun b u e => ?_) (Heap.get?_update_self _ hS3 rfl) hn (fun m => ?_) nw (by rw [List.length_append]; omega) fun h2 tk2 p c2 k2 pp hp => ?_
    · exact oth b o (fun z => nS (z ▸ hb)) e
    · exact oth b u (fun z => Nat.lt_irrefl _ (Nat.lt_of_lt_of_le (Heap.lt_size e) (z ▸ z0))) (kk b u (fun m => by rw [w0 b m] at e; cases e) (old b u e))
    · exact Nat.lt_irrefl _ (Nat.lt_trans (wS _ m) lS)
    · refine q h2 tk2 p c2 k2 (.inr ?_) (by rw [sp, ← List.append_assoc]; exact hp)
      rcases pp with ⟨rfl, _⟩ | h
      · exact Nat.le_of_lt (Nat.lt_of_le_of_lt z0 lS)
      · exact h
end
section
variable {P : Program} {w : World} {A : Around} {E : Value → Shared → Prop} {s : Shared}
theorem argsSum2 (a b : Value) : argsOk "sum" ⟨[a, b], []⟩ := by unfold argsOk; kernel_rfl
theorem list_not_str : isSubtype (.type "list") (.type "str") = pure false := by rw [isSubtype_type]; kernel_rfl
theorem list_not_bytes : isSubtype (.type "list") (.type "bytes") = pure false := by rw [isSubtype_type]; kernel_rfl
theorem list_not_bytearray : isSubtype (.type "list") (.type "bytearray") = pure false := by rw [isSubtype_type]; kernel_rfl
theorem sum_lists {l e : Addr} {us T : List Value} {ce : Nat} {Q : Value → Shared → Prop} (hh : A.handled = none) (hl : s.heap.IsList l us.toArray) (he : s.heap.get? e = some (lob T ce)) (yss : List (List Value)) (tot : yss.length = us.length)
    (its : ∀ (i : Nat) (v : Value), us[i]? = some v → ∃ b ys c, v = Value.ref b ∧ yss[i]? = some ys ∧ s.heap.get? b = some (lob ys c)) (big : T.length + yss.flatten.length ≤ sizeLine)
    (q : ∀ h' tk p c, (∀ b u, s.heap.get? b = some u → h'.get? b = some u) → (p = e ∧ us = [] ∨ s.heap.objs.size ≤ p) → h'.get? p = some (lob (T ++ yss.flatten) c) → Q (.ref p) { s with heap := h', toks := tk }) :
    wpAny (model P w) A (call (.builtin "sum") [.ref l, .ref e]) Q E s := by
  refine call_function_tree PySem.F.kind_sum PySem.F.plain_sum PySem.F.entry_sum (argsSum2 _ _) ?_
  unfold Builtin.«sum»
  simp only [List.length_cons, List.length_nil]
  rw [if_neg (by decide)]
  refine wpAny_bind (wpAny_of_eq (show Builtin.Builtins.bindParams "sum" ["start"] 0 { pos := [Value.ref e], kw := [] } = pure [some (Value.ref e)] from rfl) ?_)
  refine wpAny_bind (wpAny_pyIter_list hl ?_)
  refine wpAny_bind (wpAny_pure ?_)
  have hp : ∀ b u, s.heap.get? b = some u → (s.heap.push { cls := .type "list_iterator", data := .fields #[.ref l, .int 0 0] }).get? b = some u := fun b u z => Heap.get?_push_of_some _ z
  have hT : Shared.TypeIs { s with heap := s.heap.push { cls := .type "list_iterator", data := .fields #[.ref l, .int 0 0] } } (.ref e) "list" := ⟨_, hp _ _ he, rfl⟩
  simp only [List.forIn_cons, List.forIn_nil]
  refine wpAny_bind (wpAny_bind (wpAny_bind (wpAny_isInstance (T := "list") (b := false) hT list_not_str ?_)))
  simp only [Bool.false_eq_true, if_false]
  refine wpAny_pure (wpAny_bind (wpAny_bind (wpAny_isInstance (T := "list") (b := false) hT list_not_bytes ?_)))
  simp only [Bool.false_eq_true, if_false]
  refine wpAny_pure (wpAny_bind (wpAny_bind (wpAny_isInstance (T := "list") (b := false) hT list_not_bytearray ?_)))
  simp only [Bool.false_eq_true, if_false]
  refine wpAny_pure (wpAny_pure ?_)
  refine wpAny_bind (wpAny_newObj_type ?_)
  have lb : l < s.heap.objs.size := by
    obtain ⟨o, z, _⟩ := hl
    exact Heap.lt_size z
  have eb := Heap.lt_size he
  have hI : (s.heap.push { cls := .type "list_iterator", data := .fields #[.ref l, .int 0 0] }).IsListIter s.heap.objs.size l 0 := ⟨_, Heap.get?_push_size _ rfl, rfl, rfl⟩
  have zp : (s.heap.push { cls := .type "list_iterator", data := .fields #[.ref l, .int 0 0] }).objs.size = s.heap.objs.size + 1 := size_push' _ _
  refine wpAny_pure ⟨plainId_quiet PySem.F.plain_sum_loop _, ?_⟩
  refine sum_go (Walks.list (A := A.in1) hh s.heap.objs.size l (Nat.ne_of_lt lb) us.toArray) (s.heap.push { cls := .type "list_iterator", data := .fields #[.ref l, .int 0 0] }).objs.size ?_ s.heap ?_ ?_ ?_ yss (by rw [tot, List.size_toArray]) ?_
    us.length 0 _ e T 0 ce (by rw [List.size_toArray]; omega) ⟨Heap.IsListIter.at hI (fun o z => Heap.get?_push_of_some _ z), Heap.IsList.push (Heap.IsList.push hl _) _⟩ (fun b u z => Heap.get?_push_of_some _ (hp b u z)) (Heap.get?_push_size _ rfl) (Heap.get?_push_of_some _ (hp _ _ he)) ?_ ?_ (by simpa using big) ?_
  · intro m
    rw [zp] at m
    rcases List.mem_cons.mp m with z | z
    · exact Nat.succ_ne_self _ z
    · exact Nat.lt_irrefl _ (Nat.lt_of_lt_of_le lb (Nat.le_of_succ_le (Nat.le_of_eq (List.mem_singleton.mp z))))
  · rw [zp]; exact Nat.le_succ _
  · intro b m
    rw [List.mem_singleton.mp m, zp]
    exact Nat.lt_succ_self _
  · intro b m
    rw [List.mem_singleton.mp m]
    cases z : s.heap.get? s.heap.objs.size with
    | none => rfl
    | some o => exact absurd (Heap.lt_size z) (Nat.lt_irrefl _)
  · intro i v hv
    exact its i v (by simpa using hv)
  · intro m
    exact Nat.ne_of_lt eb (List.mem_singleton.mp m)
  · rw [zp]; exact Nat.ne_of_lt (Nat.lt_succ_of_lt eb)
  · intro h' tk p c k pp hz
    refine q h' tk p c k ?_ (by simpa using hz)
    rcases pp with ⟨a, b⟩ | b
    · exact .inl ⟨a, List.length_eq_zero_iff.mp b⟩
    · exact .inr b
end
section
variable {X : Cx}
/-- sum(lists, start), by values -/
def rSumL : List V → Hp → VK → Prop := fun vs H Q => ∃ (l e : Addr) (xs T : List V) (yss : List (List V)), vs = [V.ref l, V.ref e] ∧ SqL X.K H l xs ∧ H e = some (.lst T) ∧ xs ≠ [] ∧ Paired (fun v ys => ∃ b, v = V.ref b ∧ H b = some (.lst ys)) xs yss ∧ T.length + yss.flatten.length ≤ sizeLine ∧
  ∀ p, H p = none → Q (.ref p) (upd H p (.lst (T ++ yss.flatten)))
theorem cr_sumL (hc : X.calm = true) : CallR X (.builtin "sum") (rSumL (X := X)) := by
  intro pins s σ H vs us Q I r h
  obtain ⟨l, e, xs, T, yss, rfl, hs, he, ne, pr, big, q⟩ := h
  obtain ⟨its, rv, hl, zb⟩ := I.list hs
  clear zb
  obtain ⟨_, ts, ce, rt, tl, he2⟩ := I.lstM he
  obtain ⟨zs, hz⟩ : ∃ zs : List (List Value), Paired (fun v ys => ∃ b c, v = Value.ref b ∧ s.heap.get? b = some (lob ys c)) its zs ∧ Paired Vals yss zs := by
    clear big q hs hl ne r
    induction rv generalizing yss with
    | nil => cases pr; exact ⟨[], .nil, .nil⟩
    | cons r1 _ ih =>
      cases pr with
      | cons a pr1 =>
        obtain ⟨zs, h1, h2⟩ := ih _ pr1
        obtain ⟨b, rfl, hb⟩ := a
        obtain ⟨_, ws, c, rw1, _, hb2⟩ := I.lstM hb
        cases r1
        exact ⟨ws :: zs, .cons ⟨b, c, rfl, hb2⟩ h1, .cons rw1 h2⟩
  obtain ⟨z1, z2⟩ := hz
  have fl : ∀ {a : List (List V)} {b : List (List Value)}, Paired Vals a b → Vals a.flatten b.flatten := by
    intro a b p
    induction p with
    | nil => exact .nil
    | cons a _ ih => rw [List.flatten_cons, List.flatten_cons]; exact a.append ih
  have rf := fl z2
  cases r with
  | cons r1 r2 =>
    cases r2 with
    | cons r3 r4 =>
      cases r4
      cases r1
      cases r3
      refine sum_lists (I.ok.hd hc) hl.isList he2 zs (Paired.length z1).symm (fun i v hv => ?_) (by rw [← rt.length, ← rf.length]; exact big) fun h' tk p c k pp hp => ?_
      · have get : ∀ {us : List Value} {zs : List (List Value)} (i : Nat) (v : Value), Paired (fun v ys => ∃ b c, v = Value.ref b ∧ s.heap.get? b = some (lob ys c)) us zs → us[i]? = some v → ∃ b ys c, v = Value.ref b ∧ zs[i]? = some ys ∧ s.heap.get? b = some (lob ys c) := by
          intro us zs i v p
          induction p generalizing i with
          | nil => intro z; simp at z
          | cons a _ ih =>
            intro z
            cases i with
            | zero =>
              obtain ⟨b, c, e1, e2⟩ := a
              simp only [List.getElem?_cons_zero, Option.some.injEq] at z
              exact ⟨b, _, c, z ▸ e1, rfl, e2⟩
            | succ i => exact ih i (by simpa using z)
        exact get i v z1 hv
      · rcases pp with ⟨_, z⟩ | z
        · subst z
          exact absurd (List.length_eq_zero_iff.mp rv.length) ne
        · exact ⟨.ref p, upd H p (.lst (T ++ yss.flatten)), I.laid k z ⟨by rw [List.length_append]; exact big, ts ++ zs.flatten, c, rt.append rf, hp⟩, rfl, q p (I.hok.fresh z)⟩
end
end Own

namespace Kx
open PySem L2 Own
abbrev s__law_counted : Stmt := top 40
structure TxtLc (K : PySem.W.Frag) (mg : Str → Option Value) (f : Addr) (d : FuncData) : Prop where
  D__law_counted : DefT K mg "_law_counted" "_law_counted" s__law_counted ["signs", "rows", "ends"] f d
  n_sum : mg "sum" = none
  n_list : mg "list" = none
  n_len : mg "len" = none
  n_set : mg "set" = none
  n_tuple : mg "tuple" = none
/-- what is told, as data -/
def manyD : PyData := .tuple [.str "many", .str "keys"]
def lineD (n : Nat) : PyData := .tuple [.str "line", .int n]
def okD (sg : Str) (R : List (List Way)) (Es : List (List Str)) : PyData := .tuple [.str sg, rowsD R, endsD Es]
def tabD (sg : Str) (R : List (List Way)) (Es : List (List Str)) : PyData := if 12 < (kl (keysOfRows R ++ Es.flatten)).length then manyD else okD sg R Es
section
variable {P : Program} {w : World} {K : PySem.W.Frag} {mg : Str → Option Value} {base : Heap} {f : Addr} {d : FuncData}
def spCounted (K : PySem.W.Frag) : Sp := fun vs H Q _ => ∃ (sg : Str) (r e : Addr) (rv ev : List V) (R : List (List Way)) (Es : List (List Str)), vs = [.str sg, .ref r, .ref e] ∧ H r = some (.lst rv) ∧ Paired (RowT H) rv R ∧ H e = some (.lst ev) ∧ Paired (KeysT H) ev Es ∧ Es ≠ [] ∧ R.length ≤ 1000 ∧ Es.length ≤ 1000 ∧
  (keysOfRows R ++ Es.flatten).length + 1 < scanBound ∧ ∀ v H', Same H H' → Dp K H' v (tabD sg R Es) → (∃ p, v = .ref p) → Q v H'
abbrev Nlc : List Str := ["signs", "rows", "ends", "keys", "found", "row", "goal"]
theorem sc_counted : FnScope Nlc ["signs", "rows", "ends"] (defScope s__law_counted) := ⟨rfl, rfl, rfl, by decide +kernel, rfl, by decide +kernel, by decide +kernel⟩
theorem ok_counted (T : TxtLc K mg f d) : FnOk P w K mg base CX0 1 f d ["signs", "rows", "ends"] (spCounted K) := by
  have sc := sc_counted
  refine T.D__law_counted.F.ok sc (fun vs H Q E h => ?_) (fun cdv A1 outer s0 H vs Q E hr h => ?_)
  · obtain ⟨_, _, _, _, _, _, _, rfl, _⟩ := h; rfl
  · obtain ⟨sg, r, e, rv, ev, R, Es, rfl, hrv, pR, hev, pE, ne, Rl, El, hb, k⟩ := h
    refine ⟨_, (pss_cons (ps_set (i := 4) sc.nd rfl (Or.inl rfl) (pe_callB (id := "sum") (cr_sumL rfl) (by rfl) T.n_sum (by decide +kernel) (pa_cons
        (pe_lc (own := [("keys", 3)]) (g := gName 3) (tt := tYes) (te := tCB (rListOf K) (tCons (tVar 3) tNil)) rfl sc.nd (pi_list (pv 2)) (blkOk_by (N := Nlc) (sc := defScope s__law_counted) (own := [("keys", 3)]) (by decide +kernel)) (fun _ _ _ _ _ => (pg_name (i := 3) sc.nd rfl (Or.inl rfl))) (fun _ _ _ _ _ => pts_nil)
          (fun _ _ _ _ _ => pe_callTy (T := "list") call_list_of (by rfl) T.n_list (by decide +kernel) (pa_cons (pv 3) pa_nil)))
        (pa_cons (pe_lst pa_nil) pa_nil))))
      (pss_cons (ps_for PassesOwn.never rfl (pi_list (pv 1)) (pg_name (i := 5) sc.nd rfl (Or.inl rfl))
        (pss_one (ps_for PassesOwn.never rfl (pi_tup (pv 5)) (pg_tup rfl (pgs_cons (pg_name (i := 6) sc.nd rfl (Or.inl rfl)) (pgs_cons (pg_name (i := 3) sc.nd rfl (Or.inl rfl)) pgs_nil)))
          (pss_one (ps_set (i := 4) sc.nd rfl (Or.inl rfl) (pe_op op_cat (pv 4) (pe_callTy (T := "list") call_list_of (by rfl) T.n_list (by decide +kernel) (pa_cons (pv 3) pa_nil))))))))
      (pss_one (ps_ret (pe_ifExp (pt_cmpR op_gt (pe_callB cr_lenT (by rfl) T.n_len (by decide +kernel) (pa_cons (pe_callTy (cr_setT rfl) (by rfl) T.n_set (by decide +kernel) (pa_cons (pv 4) pa_nil)) pa_nil)) pe_int (nomark _))
        (pe_tup (pa_cons pe_str (pa_cons pe_str pa_nil))) (pe_tup (pa_cons (pv 0) (pa_cons (pe_tupleOf rfl T.n_tuple (pv 1)) (pa_cons (pe_tupleOf rfl T.n_tuple (pv 2)) pa_nil))))))))), ?_⟩
    have eb : scanBound = 4096 := rfl
    have hb1 : (keysOfRows R).length + Es.flatten.length + 1 < 4096 := by rw [List.length_append, eb] at hb; exact hb
    have le : ev.length = Es.length := Paired.length pE
    have lr : rv.length = R.length := Paired.length pR
    -- the keys at the ends
    refine ⟨_, rfl, e, rfl, ⟨_, SqL.of hev⟩, fun D hD => ?_⟩
    refine lcs_it [some (.str sg), some (.ref r), some (.ref e), none, none, none, none] rfl walk_list (fun i H' => Same H H' ∧ ∃ acc, H' D = some (.lst acc) ∧ acc.length = i ∧ Paired (fun v (ks : List Str) => ∃ b, v = V.ref b ∧ H' b = some (.lst (ks.map V.str)) ∧ b ≠ D) acc (Es.take i)) ⟨Same.upd hD, [], upd_same, rfl, .nil⟩ (fun i H' _ z => SqL.of (z.1 _ _ hev)) ?_ ?_
    · rintro i x _ H2 hi ⟨s2, acc, hacc, la, pa⟩ ⟨rfl, hx⟩
      obtain ⟨ks, hks, a, rfl, ha⟩ := pat pE hx
      refine ⟨rfl, _, rfl, a, _, rfl, .inr (SqT.of (s2 _ _ ha)), fun l hl => ?_⟩
      have lD : l ≠ D := fun z => by rw [z, hacc] at hl; cases hl
      refine ⟨acc, Same.upd hl _ _ hacc, by rw [la, sizeLine_eq]; omega, fun b o z => ?_, acc ++ [.ref l], upd_same, by rw [List.length_append, la]; rfl, ?_⟩
      · rw [upd_ne (ne_of_none z hD)]
        exact Same.upd hl _ _ (s2 _ _ z)
      · rw [List.take_add_one, hks]
        refine psnoc (L2.Paired.mapP pa fun _ _ ⟨b, e1, e2, e3⟩ => ⟨b, e1, by rw [upd_ne e3]; exact Same.upd hl _ _ e2, e3⟩) ⟨l, rfl, by rw [upd_ne lD, upd_same], lD⟩
    rintro H2 ⟨s2, acc, hacc, la, pa⟩
    rw [le, List.take_length] at pa
    refine ⟨by decide, fun e0 he0 => ?_⟩
    have s3 := Same.upd (o := .lst ([] : List V)) he0
    have ze : (Es.map fun ks => ks.map V.str).flatten = Es.flatten.map V.str := by rw [List.map_flatten]
    refine ⟨D, e0, acc, [], Es.map fun ks => ks.map V.str, rfl, SqL.of (s3 _ _ hacc), upd_same, ?_, ?_, ?_, fun F hF => ?_⟩
    · intro z
      rw [z] at la
      have : Es.length = 0 := by rw [← le]; exact la.symm
      exact ne (List.length_eq_zero_iff.mp this)
    · have : ∀ {as : List V} {zs : List (List Str)}, Paired (fun v (ks : List Str) => ∃ b, v = V.ref b ∧ H2 b = some (.lst (ks.map V.str)) ∧ b ≠ D) as zs → Paired (fun v ys => ∃ b, v = V.ref b ∧ (upd H2 e0 (.lst [])) b = some (.lst ys)) as (zs.map fun ks => ks.map V.str) := by
        intro as zs p
        induction p with
        | nil => exact .nil
        | cons a _ ih => exact .cons (by obtain ⟨b, e1, e2, _⟩ := a; exact ⟨b, e1, s3 _ _ e2⟩) ih
      exact this pa
    · rw [ze, List.length_map, sizeLine_eq]
      show 0 + _ ≤ _
      omega
    rw [ze]
    have s4 : Same H (upd (upd H2 e0 (.lst [])) F (.lst ([] ++ Es.flatten.map V.str))) := fun b o z => Same.upd hF _ _ (s3 _ _ (s2 _ _ z))
    have h4 : (upd (upd H2 e0 (.lst [])) F (.lst ([] ++ Es.flatten.map V.str))) F = some (.lst ((Es.flatten ++ keysOfRows (R.take 0)).map V.str)) := by
      rw [upd_same]
      show some (HO.lst (Es.flatten.map V.str)) = some (HO.lst ((Es.flatten ++ []).map V.str))
      rw [List.append_nil]
    generalize upd (upd H2 e0 (.lst [])) F (.lst ([] ++ Es.flatten.map V.str)) = H4 at s4 h4 ⊢
    refine ⟨_, rfl, r, rfl, ⟨_, SqL.of (s4 _ _ hrv)⟩, ?_⟩
    refine for_it walk_list (fun i σ H' => (∃ x3 x5 x6 F, σ = [some (.str sg), some (.ref r), some (.ref e), x3, some (.ref F), x5, x6] ∧ H' F = some (.lst ((Es.flatten ++ keysOfRows (R.take i)).map V.str))) ∧ Same H H') ⟨⟨_, _, _, F, rfl, h4⟩, s4⟩ (fun i _ H' _ z => SqL.of (z.2 _ _ hrv)) ?_ ?_
    · rintro i x σ _ H5 hi ⟨⟨x3, x5, x6, F1, rfl, h5⟩, s5⟩ ⟨rfl, hx⟩
      obtain ⟨q, hq, a, vs, rfl, ha, pr⟩ := pat pR hx
      have l1 := flat_le (fun r : List Way => r.flatMap fun w => w.2) hq
      refine ⟨_, rfl, a, rfl, ⟨_, SqT.of (s5 _ _ ha)⟩, ?_⟩
      refine for_it walk_tup (fun j σ H' => (∃ x3 x6 F, σ = [some (.str sg), some (.ref r), some (.ref e), x3, some (.ref F), some (.ref a), x6] ∧ H' F = some (.lst ((Es.flatten ++ (keysOfRows (R.take i) ++ (q.take j).flatMap fun w => w.2)).map V.str))) ∧ Same H H') ⟨⟨_, _, F1, rfl, by simpa using h5⟩, s5⟩ (fun j _ H' _ z => SqT.of (z.2 _ _ ha)) ?_ ?_
      · rintro j y σ _ H6 hj ⟨⟨x3, x6, F2, rfl, h6⟩, s6⟩ ⟨rfl, hy⟩
        obtain ⟨wy, hwy, b, kv, rfl, hb2, kt, rfl, hk⟩ := pat pr hy
        have l2 := flat_le (fun w : Way => w.2) hwy
        refine ⟨b, _, rfl, SqT.of (s6 _ _ hb2), rfl, _, _, rfl, _, _, rfl, rfl, ?_⟩
        refine ⟨_, rfl, _, rfl, kt, _, rfl, .inr (SqT.of (s6 _ _ hk)), fun l hl => ?_⟩
        refine ⟨F2, l, _, _, rfl, rfl, Same.upd hl _ _ h6, upd_same, ?_, fun F3 hF3 => ?_⟩
        · rw [List.length_map, List.length_map, List.length_append, List.length_append, sizeLine_eq]
          have l1' : (keysOfRows (R.take i)).length + (q.flatMap fun w => w.2).length ≤ (keysOfRows R).length := l1
          omega
        refine ⟨⟨_, _, F3, rfl, ?_⟩, fun b' o z => Same.upd hF3 _ _ (Same.upd hl _ _ (s6 _ _ z))⟩
        rw [upd_same, ← List.map_append, flat_step _ hwy]
        simp only [List.append_assoc]
      · rintro σ H6 ⟨⟨x3, x6, F2, rfl, h6⟩, s6⟩
        have e1 : vs.length = q.length := Paired.length pr
        rw [e1, List.take_length] at h6
        refine ⟨⟨_, _, _, F2, rfl, ?_⟩, s6⟩
        have : keysOfRows (R.take (i + 1)) = keysOfRows (R.take i) ++ q.flatMap fun w => w.2 := flat_step _ hq
        rw [this]
        exact h6
    · rintro σ H5 ⟨⟨x3, x5, x6, F1, rfl, h5⟩, s5⟩
      rw [lr, List.take_length] at h5
      have hfb : (Es.flatten ++ keysOfRows R).length + 1 < scanBound := by
        rw [List.length_append, eb]
        omega
      refine ⟨_, rfl, .ref F1, Es.flatten ++ keysOfRows R, rfl, .list (SqL.of h5), hfb, fun p4 l4 hp4 nd4 hm4 hl4 => ?_⟩
      refine ⟨p4, l4, rfl, upd_same, by rw [eb]; rw [eb] at hfb; omega, _, _, rfl, rfl, _, rfl, ?_⟩
      have s6 : Same H (upd H5 p4 (SetT P w p4 l4)) := fun b o z => Same.upd hp4 _ _ (s5 _ _ z)
      have same : l4.length = (kl (keysOfRows R ++ Es.flatten)).length := by
        have mm : ∀ y, y ∈ l4 ↔ y ∈ kl (keysOfRows R ++ Es.flatten) := fun y => by
          rw [hm4, kl_mem, List.mem_append, List.mem_append, or_comm]
        exact Nat.le_antisymm (nd_sub_len nd4 fun y hy => (mm y).mp hy) (nd_sub_len (kl_nodup _) fun y hy => (mm y).mpr hy)
      rw [same]
      by_cases c : 12 < (kl (keysOfRows R ++ Es.flatten)).length
      · rw [decide_eq_true (by omega : (12 : Int) < ((kl (keysOfRows R ++ Es.flatten)).length : Nat))]
        refine iteT ⟨by show 2 ≤ sizeLine; decide, fun p hp => ?_⟩
        refine k _ _ (fun b o z => Same.upd hp _ _ (s6 _ _ z)) ?_ ⟨_, rfl⟩
        unfold tabD
        rw [if_pos c]
        exact .tup (SqT.of upd_same) (.cons (.str _) (.cons (.str _) .nil))
      · rw [decide_eq_false (by omega : ¬ (12 : Int) < ((kl (keysOfRows R ++ Es.flatten)).length : Nat))]
        refine iteF ⟨_, rfl, _, rfl, .inl ⟨r, rv, rfl, SqL.of (s6 _ _ hrv), fun t1 ht1 => ?_⟩⟩
        have s7 : Same H (upd (upd H5 p4 (SetT P w p4 l4)) t1 (.tup rv)) := fun b o z => Same.upd ht1 _ _ (s6 _ _ z)
        refine ⟨_, rfl, .inl ⟨e, ev, rfl, SqL.of (s7 _ _ hev), fun t2 ht2 => ?_⟩⟩
        refine ⟨by show 3 ≤ sizeLine; decide, fun p hp => ?_⟩
        have s8 : Same H (upd (upd (upd (upd H5 p4 (SetT P w p4 l4)) t1 (.tup rv)) t2 (.tup ev)) p (.tup [.str sg, .ref t1, .ref t2])) := fun b o z => Same.upd hp _ _ (Same.upd ht2 _ _ (s7 _ _ z))
        refine k _ _ s8 ?_ ⟨_, rfl⟩
        unfold tabD
        rw [if_neg c]
        have pR8 : Paired (RowT (upd (upd (upd (upd H5 p4 (SetT P w p4 l4)) t1 (.tup rv)) t2 (.tup ev)) p (.tup [.str sg, .ref t1, .ref t2]))) rv R := L2.Paired.mapP pR fun _ _ z => z.keep (tups s8)
        have pE8 : Paired (KeysT (upd (upd (upd (upd H5 p4 (SetT P w p4 l4)) t1 (.tup rv)) t2 (.tup ev)) p (.tup [.str sg, .ref t1, .ref t2]))) ev Es := L2.Paired.mapP pE fun _ _ z => z.keep (tups s8)
        refine .tup (SqT.of upd_same) (.cons (.str _) (.cons ?_ (.cons ?_ .nil)))
        · exact .tup (SqT.of (Same.upd hp _ _ (Same.upd ht2 _ _ upd_same))) (dp_map (fun _ _ z => dp_row z) pR8)
        · exact .tup (SqT.of (Same.upd hp _ _ upd_same)) (dp_map (fun _ _ z => dp_keys z) pE8)
end
end Kx

namespace Kx
open PySem L2 Own
abbrev s__law_due : Stmt := top 39
structure TxtLd (K : PySem.W.Frag) (mg : Str → Option Value) (fk fw fc f : Addr) (dk dw dc d : FuncData) : Prop where
  w : TxtLw K mg fk fw dk dw
  c : TxtLc K mg fc dc
  D__law_due : DefT K mg "_law_due" "_law_due" s__law_due ["lines"] f d
  n_len : mg "len" = none
  n_set : mg "set" = none
theorem upd_tups {H : Hp} {D : Addr} {xs : List V} {o : HO} (h : H D = some (.lst xs)) : ∀ b ys, H b = some (.tup ys) → (upd H D o) b = some (.tup ys) := fun b ys e => by
  rw [upd_ne fun z => by rw [z, h] at e; cases e]
  exact e
/-- a line as the law has it: few words, none of them long -/
structure LnI (l : Str) : Prop where
  few : (Txt.split l " ").length ≤ 12
  short : ∀ z ∈ Txt.split l " ", z.length ≤ 30
  ok : PyData.strOk l = true
theorem linew_few {l : Str} (L : LnI l) : (lineW l).length ≤ 12 ∧ ∀ z ∈ lineW l, z.length ≤ 30 ∧ PyData.strOk z = true := by
  have P : Parts l (Txt.split l " ") := split_facts (s := 32) rfl (by decide +kernel)
  refine ⟨Nat.le_trans (List.length_filter_le _ _) L.few, fun z hz => ?_⟩
  unfold lineW at hz
  have hz := (List.mem_filter.mp hz).1
  exact ⟨L.short z hz, ok_sub L.ok (P.len z hz).2⟩
theorem ln_len {l : Str} (L : LnI l) : l.length ≤ 400 := by
  have P : Parts l (Txt.split l " ") := split_facts (s := 32) rfl (by decide +kernel)
  have h := sum_le 31 ((Txt.split l " ").map fun p => p.length + 1) fun x hx => by
    obtain ⟨p, hp, rfl⟩ := List.mem_map.mp hx
    have := L.short p hp
    omega
  rw [P.sum, List.length_map] at h
  have := L.few
  omega
theorem key_pos {y : Str} (h : keyOk y = true) : 1 ≤ y.length := by
  unfold keyOk at h
  simp only [Bool.and_eq_true, Bool.not_eq_true', decide_eq_false_iff_not] at h
  show 1 ≤ y.cps.size
  omega
theorem keys_of_ok {ks : List Str} (h : keysOk ks = true) : ∀ y ∈ ks, keyOk y = true := by
  unfold keysOk at h
  rw [Bool.and_eq_true, List.all_eq_true] at h
  exact h.2
theorem tell_few {m : Nat} {z : Str} {i : Nat} {xs : List Str} (l : z.length ≤ 30) (h : TellW m z i xs) : xs.length ≤ 15 := by
  have P : Parts z (Txt.split z "+") := split_facts (s := 43) rfl (by decide +kernel)
  have e := P.sum
  rw [h.1, List.map_cons, List.sum_cons] at e
  have low : ∀ ks : List Str, (∀ y ∈ ks, keyOk y = true) → 2 * ks.length ≤ (ks.map fun p => p.length + 1).sum := by
    intro ks
    induction ks with
    | nil => intro _; simp
    | cons a r ih =>
      intro hk
      have h1 := ih fun y hy => hk y (List.mem_cons_of_mem _ hy)
      have h2 := key_pos (hk a List.mem_cons_self)
      rw [List.map_cons, List.sum_cons, List.length_cons]
      omega
  have := low xs (keys_of_ok h.2.2)
  omega
theorem good_few {many m : Nat} {l : Str} {ws : List Way} {e : List Str} (L : LnI l) (m4 : many ≤ 4) (h : GoodL many m l ws e) : (ws.flatMap fun w => w.2).length ≤ 60 ∧ e.length ≤ 12 ∧ ∀ w ∈ ws, w.2.length ≤ 15 := by
  obtain ⟨zs, h1, h2, h3, h4⟩ := h
  obtain ⟨f1, f2⟩ := linew_few L
  rw [h1] at f1 f2
  have each : ∀ w ∈ ws, w.2.length ≤ 15 := fun w hw => by
    obtain ⟨z, hz, i, _, tw⟩ := paired_right h3 w hw
    exact tell_few (f2 z (List.mem_append_left _ hz)).1 tw
  refine ⟨?_, ?_, each⟩
  · have fb : ∀ {l : List Way}, (∀ w ∈ l, w.2.length ≤ 15) → (l.flatMap fun w => w.2).length ≤ 15 * l.length := by
      intro l
      induction l with
      | nil => intro _; simp
      | cons w l ih =>
        intro h
        have := ih fun y hy => h y (List.mem_cons_of_mem _ hy)
        have := h w List.mem_cons_self
        rw [List.flatMap_cons, List.length_append, List.length_cons, Nat.mul_succ]
        omega
    have := fb each
    have e : ws.length = zs.length := (Paired.length h3).symm
    omega
  · rw [List.length_append, List.length_cons] at f1
    omega
theorem keys_bound {many m : Nat} : ∀ {ls : List Str} {rs : List (List Way × List Str)}, Paired (fun l (x : List Way × List Str) => GoodL many m l x.1 x.2) ls rs → many ≤ 4 → (∀ l ∈ ls, LnI l) → (keysOfRows (rs.map (·.1))).length ≤ 60 * rs.length ∧ ((rs.map (·.2)).flatten).length ≤ 12 * rs.length
  | _, _, .nil, _, _ => ⟨Nat.zero_le _, Nat.zero_le _⟩
  | _, _, .cons r t, m4, hl => by
    obtain ⟨h1, h2⟩ := keys_bound t m4 fun l h => hl l (List.mem_cons_of_mem _ h)
    obtain ⟨g1, g2, _⟩ := good_few (hl _ List.mem_cons_self) m4 r
    unfold keysOfRows at h1 ⊢
    refine ⟨?_, ?_⟩
    · rw [List.map_cons, List.flatMap_cons, List.length_append, List.length_cons]
      omega
    · rw [List.map_cons, List.flatten_cons, List.length_append, List.length_cons]
      omega
theorem WayL.keep {m : Nat} {z : Str} {H H' : Hp} {v : V} (s : ∀ b xs, H b = some (.tup xs) → H' b = some (.tup xs)) (h : WayL m z H v) : WayL m z H' v := by
  rcases h with h | ⟨i, us, h1, h2⟩
  · exact .inl h
  · exact .inr ⟨i, us, h1, h2.keep s⟩
/-- the words told ways, all of them or not -/
theorem ways_all {m : Nat} {H : Hp} : ∀ {acc : List V} {zs : List Str}, Paired (fun v z => WayL m z H v) acc zs →
    ((∀ v ∈ acc, v ≠ V.non) ∧ ∃ ws, Paired (fun z (w : Way) => ∃ i : Nat, w.1 = (i : Nat) ∧ TellW m z i w.2) zs ws ∧ Paired (WayT H) acc (nrm ws)) ∨
    ((∃ v ∈ acc, v = V.non) ∧ ¬ ∃ ws, Paired (fun z (w : Way) => ∃ i : Nat, w.1 = (i : Nat) ∧ TellW m z i w.2) zs ws)
  | _, _, .nil => .inl ⟨(fun _ h => nomatch h), [], .nil, .nil⟩
  | v :: acc, z :: zs, .cons r t => by
    rcases r with ⟨e, no⟩ | ⟨i, us, g, wt⟩
    · refine .inr ⟨⟨v, List.mem_cons_self, e⟩, fun ⟨ws, h⟩ => ?_⟩
      cases h with
      | cons r _ =>
        obtain ⟨i, _, g⟩ := r
        exact no ⟨i, _, g⟩
    · rcases ways_all t with ⟨h3, ws, h4, h5⟩ | ⟨⟨u, hu, eu⟩, h4⟩
      · refine .inl ⟨fun u hu => ?_, ((i : Int), us) :: ws, .cons ⟨i, rfl, g⟩ h4, .cons wt h5⟩
        rcases List.mem_cons.mp hu with rfl | hu
        · obtain ⟨a, kv, e, _⟩ := wt
          rw [e]
          exact fun z => nomatch z
        · exact h3 u hu
      · refine .inr ⟨⟨u, List.mem_cons_of_mem _ hu, eu⟩, fun ⟨ws, h⟩ => ?_⟩
        cases h with
        | cons _ h => exact h4 ⟨_, h⟩
theorem eqv_nones (n : Nat) : PyData.eqv (.list (List.replicate n PyData.none)) (.list []) = decide (n = 0) := by
  cases n with
  | zero => rw [List.replicate_zero, PyData.eqv, PyData.eqvAll]; rfl
  | succ n => rw [List.replicate_succ, PyData.eqv, PyData.eqvAll]; rfl
theorem dp_nones (K : PySem.W.Frag) (H : Hp) : ∀ n, DpAll K H (List.replicate n V.non) (List.replicate n PyData.none)
  | 0 => .nil
  | n + 1 => .cons .non (dp_nones K H n)
/-- a line is right just if .. -/
theorem good_iff {many m : Nat} {l : Str} {x : Str} (hx : (lineW l)[many]? = some x) (ex : x = "|") {ws : List Way} (hw : Paired (fun z (w : Way) => ∃ i : Nat, w.1 = (i : Nat) ∧ TellW m z i w.2) ((lineW l).take many) ws) (he : keysOk ((lineW l).drop (many + 1)) = true) : GoodL many m l ws ((lineW l).drop (many + 1)) := by
  have hl : many < (lineW l).length := by
    by_cases c : many < (lineW l).length
    · exact c
    · rw [List.getElem?_eq_none (by omega)] at hx
      cases hx
  refine ⟨(lineW l).take many, ?_, by rw [List.length_take]; omega, hw, he⟩
  conv => lhs; rw [← List.take_append_drop many (lineW l)]
  rw [List.drop_eq_getElem_cons hl]
  rw [List.getElem?_eq_getElem hl] at hx
  rw [Option.some.inj hx, ex]
theorem good_parts {many m : Nat} {l : Str} {ws : List Way} {e : List Str} (h : GoodL many m l ws e) : many < (lineW l).length ∧ (lineW l)[many]? = some ("|" : Str) ∧ keysOk ((lineW l).drop (many + 1)) = true ∧ Paired (fun z (w : Way) => ∃ i : Nat, w.1 = (i : Nat) ∧ TellW m z i w.2) ((lineW l).take many) ws := by
  obtain ⟨zs, h1, h2, h3, h4⟩ := h
  rw [h1, ← h2]
  refine ⟨by rw [List.length_append, List.length_cons]; omega, by simp, ?_, by rw [List.take_left]; exact h3⟩
  have : (zs ++ ("|" : Str) :: e).drop (zs.length + 1) = e := by
    rw [← List.drop_drop, List.drop_left]
    rfl
  rw [this]
  exact h4
/-- what is told of lines -/
def Told (l0 : Str) (ls : List Str) (D : PyData) : Prop := (∃ n, Wrong l0 ls n ∧ D = lineD n) ∨ ∃ (sg : Str) (rs : List (List Way × List Str)), signsOf l0 = some sg ∧ 1 ≤ ls.length ∧ ls.length ≤ 16 ∧
  Paired (fun l (x : List Way × List Str) => GoodL sg.cps.size ls.length l x.1 x.2) ls rs ∧ D = tabD sg ((rs.map (·.1)).map nrm) ((rs.map (·.2)).map kl)
section
variable {P : Program} {w : World} {K : PySem.W.Frag} {mg : Str → Option Value} {base : Heap} {fk fw fc f : Addr} {dk dw dc d : FuncData}
def spDue (K : PySem.W.Frag) : Sp := fun vs H Q _ => ∃ (q : Addr) (l0 : Str) (ls : List Str), vs = [.ref q] ∧ H q = some (.lst ((l0 :: ls).map V.str)) ∧ ls.length ≤ 100 ∧ (∀ l ∈ l0 :: ls, LnI l) ∧
  ∀ v D H', Same H H' → Told l0 ls D → Dp K H' v D → (∃ p, v = .ref p) → Q v H'
abbrev Ndue : List Str := ["lines", "rows", "letters", "head", "size", "found", "ends", "k", "words", "ways", "line", "word", "sign", "way"]
theorem sc_due : FnScope Ndue ["lines"] (defScope s__law_due) := ⟨rfl, rfl, rfl, by decide +kernel, rfl, by decide +kernel, by decide +kernel⟩
def rIsN6 : R2 := fun x y H Q => y = .non ∧ Q (.bl (decide (x = .non))) H
/-- the words of a line, with the slots of this def -/
def teWords (K : PySem.W.Frag) : TE := tLc (iList K (tM1 (fun x xs H Q => ∃ a b, x = .str a ∧ xs = [.str b] ∧ (b.length == 0) = false ∧ a.length + 2 ≤ sizeLine ∧ rNewStrs (Txt.split a b) H Q) (tVar 10) (tC (.str " ")))) (gName 11) (tTest (tOp rNe (tVar 11) (tC (.str (Str.ofString ""))))) (tVar 11) [11]
theorem ok_due (T : TxtLd K mg fk fw fc f dk dw dc d) : FnOk P w K mg base CX0 3 f d ["lines"] (spDue K) := by
  have sc := sc_due
  have G_keys : FnOk P w K mg base CX0 1 fk dk ["words"] spLKeys := ok_lkeys T.w.k
  have G_way : FnOk P w K mg base CX0 2 fw dw ["word", "many"] spLWay := ok_lway T.w
  have G_counted : FnOk P w K mg base CX0 1 fc dc ["signs", "rows", "ends"] (spCounted K) := ok_counted T.c
  refine T.D__law_due.F.ok sc (fun vs H Q E h => ?_) (fun cdv A1 outer s0 H vs Q E hr h => ?_)
  · obtain ⟨_, _, _, rfl, _⟩ := h; rfl
  · obtain ⟨q, l0, ls, rfl, hq, l100, hln, k⟩ := h
    refine ⟨_, 
(pss_cons (ps_set (i := 1) sc.nd rfl (Or.inr rfl) (pe_lc (own := [("line", 10)]) (g := gName 10) (tt := tYes) (te := teWords K) rfl sc.nd (pi_list (pv 0)) (blkOk_by (N := Ndue) (sc := defScope s__law_due) (own := [("line", 10)]) (by decide +kernel)) (fun _ _ _ _ _ => (pg_name (i := 10) sc.nd rfl (Or.inl rfl))) (fun _ _ _ _ _ => pts_nil) (fun _ _ _ _ _ => pe_lc (own := [("word", 11)]) (g := gName 11) (tt := tTest (tOp rNe (tVar 11) (tC (.str (Str.ofString ""))))) (te := tVar 11) rfl sc.nd (pi_list (pe_split (pv 10) pe_str)) (blkOk_by (own := [("word", 11)]) (by rfl)) (fun _ _ _ _ _ => (pg_name (i := 11) sc.nd rfl (Or.inl rfl))) (fun _ _ _ _ _ => pts_one (pt_cmpR op_ne (pv 11) pe_str (nomark _))) (fun _ _ _ _ _ => pv 11))))
      (pss_cons (ps_asg (pe_tup (pa_cons pe_str (pa_cons (pe_ix ix_list (pv 1) pe_int (fun _ _ => rfl)) pa_nil))) (pg_tup rfl (pgs_cons (pg_name (i := 2) sc.nd rfl (Or.inr rfl)) (pgs_cons (pg_name (i := 3) sc.nd rfl (Or.inl rfl)) pgs_nil))))
      (pss_cons (ps_if (PW.pt (pw_or (pt_cmpR op_ne (pe_callB call_len (by rfl) T.n_len (by decide +kernel) (pa_cons (pv 3) pa_nil)) pe_int (nomark _)) (pw_or (pt_cmpR op_ne (pe_ix ix_list (pv 3) pe_int (fun _ _ => rfl)) pe_str (nomark _)) (pw_or (pt_not (pt_chain op_lt op_lt pe_int (pe_callB call_len (by rfl) T.n_len (by decide +kernel) (pa_cons (pe_ix ix_list (pv 3) pe_int (fun _ _ => rfl)) pa_nil)) pe_int)) (pw_or1 (pt_cmpR op_ne (pe_callB cr_lenT (by rfl) T.n_len (by decide +kernel) (pa_cons (pe_callTy (cr_setT rfl) (by rfl) T.n_set (by decide +kernel) (pa_cons (pe_ix ix_list (pv 3) pe_int (fun _ _ => rfl)) pa_nil)) pa_nil)) (pe_callB call_len (by rfl) T.n_len (by decide +kernel) (pa_cons (pe_ix ix_list (pv 3) pe_int (fun _ _ => rfl)) pa_nil)) (nomark _))))))) (pss_one (ps_ret (pe_tup (pa_cons pe_str (pa_cons pe_int pa_nil))))) pss_nil)
      (pss_cons (ps_if (pt_cmpR (op_neD hr.units) (pe_lc (own := [("sign", 12)]) (g := gName 12) (tt := tTest (tOp rNiS (tVar 12) (tVar 2))) (te := tVar 12) rfl sc.nd (pi_str (pe_ix ix_list (pv 3) pe_int (fun _ _ => rfl))) (blkOk_by (N := Ndue) (sc := defScope s__law_due) (own := [("sign", 12)]) (by decide +kernel)) (fun _ _ _ _ _ => (pg_name (i := 12) sc.nd rfl (Or.inl rfl))) (fun _ _ _ _ _ => pts_one (pt_cmpR op_notIn_sign (pv 12) (pv 2) (by rfl))) (fun _ _ _ _ _ => pv 12)) (pe_lst pa_nil) (nomark _)) (pss_one (ps_ret (pe_tup (pa_cons pe_str (pa_cons pe_int pa_nil))))) pss_nil)
      (pss_cons (ps_if (pt_cmpR op_eq (pe_callB call_len (by rfl) T.n_len (by decide +kernel) (pa_cons (pv 1) pa_nil)) pe_int (nomark _)) (pss_one (ps_ret (pe_tup (pa_cons pe_str (pa_cons pe_int pa_nil))))) pss_nil)
      (pss_cons (ps_par3 (i := 4) (j := 5) (l := 6) rfl sc.nd rfl rfl rfl (by decide) (by decide) (by decide) rfl rfl rfl (pa_cons (pe_callB call_len (by rfl) T.n_len (by decide +kernel) (pa_cons (pe_ix ix_list (pv 3) pe_int (fun _ _ => rfl)) pa_nil)) (pa_cons (pe_lst pa_nil) (pa_cons (pe_lst pa_nil) pa_nil))) rfl)
      (pss_cons (ps_for PassesOwn.never rfl (pi_range2 rfl T.w.n_range (pa_cons pe_int (pa_cons (pe_callB call_len (by rfl) T.n_len (by decide +kernel) (pa_cons (pv 1) pa_nil)) pa_nil))) (pg_name (i := 7) sc.nd rfl (Or.inl rfl))
      (pss_cons (ps_set (i := 8) sc.nd rfl (Or.inl rfl) (pe_ix ix_list (pv 1) (pv 7) (fun _ _ => rfl)))
      (pss_cons (ps_if (PW.pt (pw_or (pt_cmpR op_gt (pv 7) pe_int (nomark _)) (pw_or (pt_cmpR op_le (pe_callB call_len (by rfl) T.n_len (by decide +kernel) (pa_cons (pv 8) pa_nil)) (pv 4) (nomark _)) (pw_or (pt_cmpR op_ne (pe_ix ix_list (pv 8) (pv 4) (fun _ _ => rfl)) pe_str (nomark _)) (pw_or1 (pt_not (pt_val (pe_call G_keys (hr.mono (by decide)) rfl T.w.k.D__law_are_keys.g T.w.k.D__law_are_keys.F.kp T.w.k.D__law_are_keys.b .nil pass0 (pa_cons (pe_slice sl_list (pv 8) (po_some (pe_op op_add (pv 4) pe_int)) po_none) pa_nil))))))))) (pss_one (ps_ret (pe_tup (pa_cons pe_str (pa_cons (pe_op op_add (pv 7) pe_int) pa_nil))))) pss_nil)
      (pss_cons (ps_setLc (i := 9) (own := [("word", 11)]) (g := gName 11) (tt := tYes) (te := tCall spLWay [] E0 (tCons (tVar 11) (tCons (tOp (rI0 fun i j => .int (i - j)) (tCB (fun xs H Q => ∃ x n, xs = [x] ∧ LenV K x H n ∧ Q (.int n) H) (tCons (tVar 1) tNil)) (tC (.int 1))) tNil))) rfl sc.nd rfl rfl (sw_true rfl rfl rfl (by decide +kernel)) (pi_list (pe_slice sl_list (pv 8) po_none (po_some (pv 4)))) (blkOk_by (N := Ndue) (sc := defScope s__law_due) (own := [("word", 11)]) (by decide +kernel)) (fun _ _ _ _ _ => (pg_name (i := 11) sc.nd rfl (Or.inl rfl))) (fun _ _ _ _ _ => pts_nil) (fun _ _ _ _ _ => (pe_call G_way (hr.mono (by decide)) rfl T.w.D__law_way.g T.w.D__law_way.F.kp T.w.D__law_way.b .nil pass0 (pa_cons (pv 11) (pa_cons (pe_op op_sub (pe_callB call_len (by rfl) T.n_len (by decide +kernel) (pa_cons (pv 1) pa_nil)) pe_int) pa_nil)))))
      (pss_cons (ps_if (pt_cmpR (op_neD hr.units) (pe_lc (own := [("way", 13)]) (g := gName 13) (tt := tTest (tOp rIsN6 (tVar 13) (tC .non))) (te := tVar 13) rfl sc.nd (pi_list (pv 9)) (blkOk_by (N := Ndue) (sc := defScope s__law_due) (own := [("way", 13)]) (by decide +kernel)) (fun _ _ _ _ _ => (pg_name (i := 13) sc.nd rfl (Or.inl rfl))) (fun _ _ _ _ _ => pts_one (pt_cmpR op_isN (pv 13) pe_non (nomark _))) (fun _ _ _ _ _ => pv 13)) (pe_lst pa_nil) (nomark _)) (pss_one (ps_ret (pe_tup (pa_cons pe_str (pa_cons (pe_op op_add (pv 7) pe_int) pa_nil))))) pss_nil)
      (pss_cons (ps_expr (pe_bm PySem.F.plainAttrs_list PySem.F.slot_list_append PySem.F.type_list_append mt_append (pv 5) (pa_cons (pe_tupleOf rfl T.w.n_tuple (pv 9)) pa_nil)))
      (pss_one (ps_expr (pe_bm PySem.F.plainAttrs_list PySem.F.slot_list_append PySem.F.type_list_append mt_append (pv 6) (pa_cons (pe_tupleOf rfl T.w.n_tuple (pe_callB cr_sortedS (by rfl) T.w.n_sorted (by decide +kernel) (pa_cons (pe_slice sl_list (pv 8) (po_some (pe_op op_add (pv 4) pe_int)) po_none) pa_nil))) pa_nil))))))))))
      (pss_one (ps_ret (pe_call G_counted (hr.mono (by decide)) rfl T.c.D__law_counted.g T.c.D__law_counted.F.kp T.c.D__law_counted.b .nil pass0 (pa_cons (pe_ix ix_list (pv 3) pe_int (fun _ _ => rfl)) (pa_cons (pv 5) (pa_cons (pv 6) pa_nil))))))))))))), ?_⟩
    have eb : scanBound = 4096 := rfl
    -- rows
    refine ⟨_, rfl, q, rfl, ⟨_, SqL.of hq⟩, fun D hD => ?_⟩
    refine lcs_it [some (.ref q), none, none, none, none, none, none, none, none, none, none, none, none, none] rfl walk_list
      (fun i H' => Same H H' ∧ ∃ acc, H' D = some (.lst acc) ∧ acc.length = i ∧ Paired (fun v (l : Str) => ∃ b, v = V.ref b ∧ H' b = some (.lst ((lineW l).map V.str)) ∧ b ≠ D) acc ((l0 :: ls).take i))
      ⟨Same.upd hD, [], upd_same, rfl, .nil⟩ (fun i H' _ z => SqL.of (z.1 _ _ hq)) ?_ ?_
    · rintro i x _ H2 hi ⟨s2, acc, hacc, la, pa⟩ ⟨rfl, hx⟩
      rw [List.getElem?_map] at hx
      obtain ⟨l, hl, rfl⟩ := Option.map_eq_some_iff.mp hx
      have L := hln l (List.mem_of_getElem? hl)
      have lz : l.cps.size ≤ 400 := ln_len L
      refine ⟨rfl, _, rfl, ⟨_, rfl⟩, l, " ", rfl, rfl, by decide, by show l.cps.size + 2 ≤ _; rw [sizeLine_eq]; omega, fun q1 hq1 => ⟨q1, rfl, ⟨_, SqL.of upd_same⟩, fun D1 hD1 => ?_⟩⟩
      have h1 : (upd H2 q1 (.lst ((Txt.split l " ").map V.str))) q1 = some (.lst ((Txt.split l " ").map V.str)) := upd_same
      have s1 := Same.upd (o := .lst ((Txt.split l " ").map V.str)) hq1
      generalize upd H2 q1 (.lst ((Txt.split l " ").map V.str)) = H3 at h1 s1 hD1 ⊢
      have few := L.few
      refine lcs_it [some (.ref q), none, none, none, none, none, none, none, none, none, some (.str l), none, none, none] rfl walk_list (fun i H' => Same H3 H' ∧ H' D1 = some (.lst ((((Txt.split l " ").take i).filter fun z => !decide (V.str z = V.str "")).map V.str))) ⟨Same.upd hD1, upd_same⟩ (fun i H' _ z => SqL.of (z.1 _ _ h1)) ?_ ?_
      · rintro j x _ H4 hj ⟨s4, h4⟩ ⟨rfl, hx⟩
        rw [List.getElem?_map] at hx
        obtain ⟨z, hz, rfl⟩ := Option.map_eq_some_iff.mp hx
        refine ⟨rfl, _, rfl, rfl, _, rfl, ?_⟩
        have tk : (Txt.split l " ").take (j + 1) = (Txt.split l " ").take j ++ [z] := by rw [List.take_add_one, hz]; rfl
        by_cases c : V.str z = V.str ""
        · refine ifFn c ⟨s4, ?_⟩
          rw [h4, tk, List.filter_append, List.filter_cons_of_neg (by simp [c]), List.filter_nil, List.append_nil]
        · refine ifTn c ⟨_, rfl, _, h4, ?_, fun b o e => ?_, ?_⟩
          · rw [List.length_map, sizeLine_eq]
            have := List.length_filter_le (fun z : Str => !decide (V.str z = V.str "")) ((Txt.split l " ").take j)
            rw [List.length_take] at this
            omega
          · rw [upd_ne (ne_of_none e hD1)]
            exact s4 _ _ e
          · rw [upd_same, tk, List.filter_append, List.filter_cons_of_pos (by simp [c]), List.filter_nil, List.map_append]
            rfl
      · rintro H4 ⟨s4, h4⟩
        have eT : (Txt.split l " ").take ((Txt.split l " ").map V.str).length = Txt.split l " " := List.take_of_length_le (by simp)
        rw [eT] at h4
        have hacc4 := s4 _ _ (s1 _ _ hacc)
        have D1D : D1 ≠ D := fun z => by
          rw [z, s1 _ _ hacc] at hD1
          cases hD1
        refine ⟨acc, hacc4, by rw [la, sizeLine_eq]; rw [List.length_map, List.length_cons] at hi; omega, fun b o z => ?_, acc ++ [.ref D1], upd_same, by rw [List.length_append, la]; rfl, ?_⟩
        · rw [upd_ne (ne_of_none z hD)]
          exact s4 _ _ (s1 _ _ (s2 _ _ z))
        · rw [List.take_add_one, hl]
          refine psnoc (L2.Paired.mapP pa fun _ _ ⟨b, e1, e2, e3⟩ => ⟨b, e1, by rw [upd_ne e3]; exact s4 _ _ (s1 _ _ e2), e3⟩) ⟨D1, rfl, by rw [upd_ne D1D]; exact h4, D1D⟩
    rintro H2 ⟨s2, acc, hacc, la, pa⟩
    rw [List.length_map] at la pa
    rw [List.take_length] at pa
    rw [List.length_cons] at la
    cases pa with
    | @cons v0 _ more _ r0 pt =>
    obtain ⟨hd, rfl, hh, hdD⟩ := r0
    have i0 : atI (V.ref hd :: more) 0 = some (.ref hd) := atI_nat (j := 0) rfl
    -- letters, head
    refine ⟨_, rfl, D, _, 0, _, rfl, rfl, SqL.of hacc, i0, by show 2 ≤ sizeLine; decide, fun t ht => ⟨t, _, rfl, SqT.of upd_same, rfl, _, _, rfl, _, _, rfl, rfl, ?_⟩⟩
    have s3 : Same H (upd H2 t (.tup [.str aLet, .ref hd])) := fun b o z => Same.upd ht _ _ (s2 _ _ z)
    have pt3 : Paired (fun v (l : Str) => ∃ b, v = V.ref b ∧ (upd H2 t (.tup [.str aLet, .ref hd])) b = some (.lst ((lineW l).map V.str))) more ls := L2.Paired.mapP pt fun _ _ ⟨b, e1, e2, _⟩ => ⟨b, e1, Same.upd ht _ _ e2⟩
    have hacc3 := Same.upd (o := .tup [.str aLet, .ref hd]) ht _ _ hacc
    have hh3 := Same.upd (o := .tup [.str aLet, .ref hd]) ht _ _ hh
    clear pt hh hacc
    generalize upd H2 t (.tup [.str aLet, .ref hd]) = H3 at s3 pt3 hacc3 hh3 ⊢
    have tell : ∀ {H' : Hp} (n : Nat), Same H H' → Wrong l0 ls n → 2 ≤ sizeLine ∧ ∀ p, H' p = none → Q (.ref p) (upd H' p (.tup [.str "line", .int (n : Nat)])) := fun {H'} n s wr =>
      ⟨by decide, fun p hp => k _ _ _ (fun b o z => Same.upd hp _ _ (s _ _ z)) (.inl ⟨n, wr, rfl⟩) (.tup (SqT.of upd_same) (.cons (.str _) (.cons (.int _) .nil))) ⟨_, rfl⟩⟩
    have L0 := hln l0 List.mem_cons_self
    obtain ⟨w12, w30⟩ := linew_few L0
    generalize hW : lineW l0 = W at hh3 w12 w30
    -- if len(head) != 2 ..
    refine ⟨_, rfl, .ref hd, W.length, rfl, .inl ⟨_, SqL.of hh3, by rw [List.length_map]⟩, rfl, _, rfl, ?_⟩
    by_cases c2 : W.length = 2
    rotate_left
    · refine ifTn (fun z => c2 (Int.ofNat.inj (V.int.inj z))) ?_
      refine tell 1 s3 (.inl ⟨?_, rfl⟩)
      unfold signsOf
      rw [hW]
      match W, c2 with
      | [], _ => rfl
      | [_], _ => rfl
      | [_, _], c2 => exact absurd rfl c2
      | _ :: _ :: _ :: _, _ => rfl
    obtain ⟨a, z, rfl⟩ : ∃ a z, W = [a, z] := by
      match W, c2 with
      | [a, z], _ => exact ⟨a, z, rfl⟩
    refine iteF ?_
    have i1 : atI ([V.str a, V.str z] : List V) 1 = some (.str z) := atI_nat (j := 1) rfl
    have ia : atI ([V.str a, V.str z] : List V) 0 = some (.str a) := atI_nat (j := 0) rfl
    have es : signsOf l0 = if V.str a = V.str "signs" ∧ signsOk z = true then some z else none := by unfold signsOf; rw [hW]
    refine ⟨_, rfl, hd, _, 0, _, rfl, rfl, SqL.of hh3, ia, rfl, _, rfl, ?_⟩
    by_cases c3 : V.str a = V.str "signs"
    rotate_left
    · refine ifTn c3 ?_
      exact tell 1 s3 (.inl ⟨by rw [es, if_neg (fun e => c3 e.1)], rfl⟩)
    refine ifFn c3 ?_
    have z30 : z.cps.size ≤ 30 := (w30 z (by simp)).1
    have zok := (w30 z (by simp)).2
    have no1 : signsOk z = false → ∀ {H'}, Same H H' → 2 ≤ sizeLine ∧ ∀ p, H' p = none → Q (.ref p) (upd H' p (.tup [.str "line", .int ((1 : Nat) : Int)])) := fun e {H'} s => tell 1 s (.inl ⟨by rw [es, if_neg (fun y => by rw [e] at y; cases y.2)], rfl⟩)
    have ll := letters_len z
    refine ⟨_, rfl, hd, _, 1, _, rfl, rfl, SqL.of hh3, i1, .str z, z.cps.size, rfl, ⟨by show z.cps.size ≤ _; rw [sizeLine_eq]; omega, rfl⟩, _, _, rfl, rfl, _, rfl, ?_⟩
    by_cases c4 : z.cps.size < 1
    · rw [decide_eq_false (by omega : ¬ (0 : Int) < (z.cps.size : Int))]
      refine iteF ⟨_, rfl, ?_⟩
      refine no1 ?_ s3
      unfold signsOk
      rw [decide_eq_true c4]
      rfl
    rw [decide_eq_true (by omega : (0 : Int) < (z.cps.size : Int))]
    refine iteT ⟨_, _, rfl, rfl, _, rfl, ?_⟩
    by_cases c5 : 4 < z.cps.size
    · rw [decide_eq_false (by omega : ¬ (z.cps.size : Int) < 5)]
      refine no1 ?_ s3
      unfold signsOk
      rw [decide_eq_true c5]
      simp
    rw [decide_eq_true (by omega : (z.cps.size : Int) < 5)]
    refine ⟨_, rfl, hd, _, 1, _, rfl, rfl, SqL.of hh3, i1, .str z, letters z, rfl, .text z, by rw [ll, eb]; omega, fun p4 l4 hp4 nd4 hm4 hl4 => ?_⟩
    refine ⟨p4, l4, rfl, upd_same, by rw [eb]; omega, ?_⟩
    have h4 := Same.upd (o := SetT P w p4 l4) hp4
    refine ⟨_, rfl, hd, _, 1, _, rfl, rfl, SqL.of (h4 _ _ hh3), i1, .str z, z.cps.size, rfl, ⟨by show z.cps.size ≤ _; rw [sizeLine_eq]; omega, rfl⟩, rfl, _, rfl, ?_⟩
    have ed : decide (V.int (l4.length : Nat) = V.int (z.cps.size : Nat)) = decide (letters z).Nodup := by
      rw [decide_eq_decide, ← ll]
      exact ⟨fun y => (nodup_len nd4 hm4).mp (Int.ofNat.inj (V.int.inj y)), fun y => by rw [(nodup_len nd4 hm4).mpr y]⟩
    rw [ed]
    have s4 : Same H (upd H3 p4 (SetT P w p4 l4)) := fun b o y => h4 _ _ (s3 _ _ y)
    by_cases c6 : (letters z).Nodup
    rotate_left
    · refine ifTn c6 ?_
      refine no1 ?_ s4
      unfold signsOk
      rw [decide_eq_false c6]
      simp
    refine ifFn c6 ?_
    -- the strange signs
    refine ⟨_, rfl, hd, _, 1, _, rfl, rfl, SqL.of (h4 _ _ hh3), i1, z, rfl, fun D3 hD3 => ?_⟩
    refine lcs_it [some (.ref q), some (.ref D), some (.str aLet), some (.ref hd), none, none, none, none, none, none, none, none, none, none] rfl walk_str (fun j H' => Same H3 H' ∧ H' D3 = some (.lst ((((z.cps.toList.take j).filter fun c => !decide (c ∈ aLet.cps.toList)).map Froz.sing).map V.str))) ⟨fun b o y => Same.upd hD3 _ _ (h4 _ _ y), upd_same⟩ (fun _ _ _ _ => trivial) ?_ ?_
    · rintro j x _ H5 hj ⟨s5, h5⟩ ⟨rfl, c, hc, rfl⟩
      have hct : z.cps.toList[j]? = some c := by rw [Array.getElem?_toList]; exact hc
      have tk : z.cps.toList.take (j + 1) = z.cps.toList.take j ++ [c] := by rw [List.take_add_one, hct]; rfl
      refine ⟨rfl, _, rfl, _, rfl, c, aLet, rfl, rfl, _, rfl, ?_⟩
      have nD3 : H3 D3 = none := h4.free hD3
      by_cases cm : c ∈ aLet.cps.toList
      · rw [decide_eq_true cm]
        refine ⟨s5, ?_⟩
        have e9 : ([c] : List Nat).filter (fun c => !decide (c ∈ aLet.cps.toList)) = [] := by rw [List.filter_cons, decide_eq_true cm]; rfl
        rw [tk, List.filter_append, e9, List.append_nil]
        exact h5
      · rw [decide_eq_false cm]
        refine ⟨_, rfl, _, h5, ?_, fun b o y => ?_, ?_⟩
        · rw [List.length_map, List.length_map, sizeLine_eq]
          have := List.length_filter_le (fun c => !decide (c ∈ aLet.cps.toList)) (z.cps.toList.take j)
          rw [List.length_take] at this
          omega
        · rw [upd_ne (ne_of_none y nD3)]
          exact s5 _ _ y
        · have e9 : ([c] : List Nat).filter (fun c => !decide (c ∈ aLet.cps.toList)) = [c] := by rw [List.filter_cons, decide_eq_false cm]; rfl
          rw [upd_same, tk, List.filter_append, e9, List.map_append, List.map_append]
          rfl
    rintro H5 ⟨s5, h5⟩
    have eT : z.cps.toList.take z.cps.size = z.cps.toList := List.take_of_length_le (by simp)
    rw [eT] at h5
    refine ⟨by decide, fun e0 he0 => ?_⟩
    have okc : ∀ c ∈ z.cps.toList, c < 1114112 := fun c hc => by
      unfold PyData.strOk at zok
      rw [← Array.all_toList, List.all_eq_true] at zok
      exact of_decide_eq_true (zok c hc)
    refine ⟨.list (((z.cps.toList.filter fun c => !decide (c ∈ aLet.cps.toList)).map Froz.sing).map PyData.str), .list [], .lst (SqL.of (Same.upd he0 _ _ h5)) (dp_strs K _ _), .lst (SqL.of upd_same) .nil, (Sh.list (n := 0) fun x hx => ?_).ok (by decide), (Sh.list (n := 0) fun x hx => by cases hx).ok (by decide), _, rfl, ?_⟩
    · obtain ⟨y, hy, rfl⟩ := List.mem_map.mp hx
      obtain ⟨c, hc, rfl⟩ := List.mem_map.mp hy
      refine Sh.str ?_
      show (#[c] : Array Nat).all (· < 0x110000) = true
      have := okc c (List.mem_filter.mp hc).1
      simpa using this
    rw [eqv_strs_nil]
    have s6' : Same H3 (upd H5 e0 (.lst [])) := fun b o y => Same.upd he0 _ _ (s5 _ _ y)
    have s6 : Same H (upd H5 e0 (.lst [])) := fun b o y => s6' _ _ (s3 _ _ y)
    by_cases cx : ∀ c ∈ z.cps.toList, c ∈ aLet.cps.toList
    rotate_left
    · have e0' : ¬ (z.cps.toList.filter fun c => !decide (c ∈ aLet.cps.toList)).map Froz.sing = [] := fun e => cx fun c hc => by
        rw [List.map_eq_nil_iff, List.filter_eq_nil_iff] at e
        simpa using e c hc
      refine ifTn e0' ?_
      refine no1 ?_ s6
      unfold signsOk
      rw [Bool.and_eq_false_iff]
      right
      rw [List.all_eq_false]
      by_cases c : ∃ c ∈ z.cps.toList, c ∉ aLet.cps.toList
      · obtain ⟨c, hc, nc⟩ := c
        exact ⟨c, hc, by simp [nc]⟩
      · exact absurd (fun a ha => Classical.byContradiction fun y => c ⟨a, ha, y⟩) cx
    have e0' : (z.cps.toList.filter fun c => !decide (c ∈ aLet.cps.toList)).map Froz.sing = [] := by
      rw [List.map_eq_nil_iff, List.filter_eq_nil_iff]
      intro c hc
      simp [cx c hc]
    refine ifFn e0' ?_
    have zsig : signsOk z = true := by
      unfold signsOk
      rw [decide_eq_false c4, decide_eq_false c5, decide_eq_true c6]
      simp only [Bool.not_false, Bool.true_and, List.all_eq_true, decide_eq_true_eq]
      exact cx
    have hsg : signsOf l0 = some z := by rw [es, if_pos ⟨c3, zsig⟩]
    have hacc6 := s6' _ _ hacc3
    have hh6 := s6' _ _ hh3
    have pt6 : Paired (fun v (l : Str) => ∃ b, v = V.ref b ∧ (upd H5 e0 (.lst [])) b = some (.lst ((lineW l).map V.str))) more ls := L2.Paired.mapP pt3 fun _ _ ⟨b, e1, e2⟩ => ⟨b, e1, s6' _ _ e2⟩
    clear s6' s5 h5 h4 s4 hp4 nd4 hm4 pt3 hacc3 hh3 s3 s2
    generalize upd H5 e0 (.lst []) = H6 at s6 hacc6 hh6 pt6 ⊢
    have lm : more.length = ls.length := Paired.length pt6
    have lrows : (V.ref hd :: more).length = ls.length + 1 := by rw [List.length_cons, lm]
    -- if len(rows) == 1
    refine ⟨_, rfl, .ref D, ls.length + 1, rfl, .inl ⟨_, SqL.of hacc6, lrows.symm⟩, rfl, _, rfl, ?_⟩
    by_cases c7 : ls.length = 0
    · rw [decide_eq_true (show V.int ((ls.length + 1 : Nat) : Int) = V.int 1 by rw [c7]; rfl)]
      refine iteT ?_
      exact tell 2 s6 (.inr ⟨z, hsg, .inl ⟨List.length_eq_zero_iff.mp c7, rfl⟩⟩)
    rw [decide_eq_false (show ¬ V.int ((ls.length + 1 : Nat) : Int) = V.int 1 from fun y => by have := V.int.inj y; omega)]
    refine iteF ?_
    have z4 : z.cps.size ≤ 4 := by omega
    -- size, found, ends
    refine ⟨_, rfl, hd, _, 1, _, rfl, rfl, SqL.of hh6, i1, .str z, z.cps.size, rfl, ⟨by show z.cps.size ≤ _; rw [sizeLine_eq]; omega, rfl⟩, by decide, fun F hF => ⟨by decide, fun G hG => ⟨_, _, _, rfl, ?_⟩⟩⟩
    have FG : F ≠ G := fun y => by rw [← y, upd_same] at hG; cases hG
    have hF7 : (upd (upd H6 F (.lst [])) G (.lst [])) F = some (.lst []) := Same.upd hG _ _ upd_same
    have hG7 : (upd (upd H6 F (.lst [])) G (.lst [])) G = some (.lst []) := upd_same
    have s7 : Same H6 (upd (upd H6 F (.lst [])) G (.lst [])) := fun b o y => Same.upd hG _ _ (Same.upd hF _ _ y)
    have nG6 : H6 G = none := (Same.upd hF).free hG
    generalize upd (upd H6 F (.lst [])) G (.lst []) = H7 at hF7 hG7 s7 ⊢
    refine ⟨_, rfl, .ref D, ls.length + 1, rfl, .inl ⟨_, SqL.of (s7 _ _ hacc6), lrows.symm⟩, 1, _, rfl, ⟨by decide, by decide, by omega, by omega⟩, ?_⟩
    have en : (((ls.length + 1 : Nat) : Int) - 1).toNat = ls.length := by omega
    rw [en]
    refine for_it walk_range (fun i σ H' => (∃ x7 x8 x9, σ = [some (.ref q), some (.ref D), some (.str aLet), some (.ref hd), some (.int (z.cps.size : Nat)), some (.ref F), some (.ref G), x7, x8, x9, none, none, none, none]) ∧ Same H6 H' ∧ ∃ (fv gv : List V) (rs : List (List Way × List Str)), H' F = some (.lst fv) ∧ H' G = some (.lst gv) ∧ fv.length = i ∧ gv.length = i ∧ Paired (RowT H') fv ((rs.map (·.1)).map nrm) ∧ Paired (KeysT H') gv ((rs.map (·.2)).map kl) ∧ Paired (fun l (x : List Way × List Str) => GoodL z.cps.size ls.length l x.1 x.2) (ls.take i) rs ∧ i ≤ 16)
      ⟨⟨_, _, _, rfl⟩, s7, [], [], [], hF7, hG7, rfl, rfl, .nil, .nil, .nil, Nat.zero_le _⟩ (fun _ _ _ _ _ => trivial) ?_ ?_
    · rintro i x σ _ H8 hi ⟨⟨x7, x8, x9, rfl⟩, s8, fv, gv, rs, hF8, hG8, lf, lg, pf, pg, pk, i16⟩ ⟨rfl, ex⟩
      have ex2 : x = V.int ((i + 1 : Nat) : Int) := by
        rw [ex]
        show V.int (1 + (i : Int)) = _
        congr 1
        omega
      clear ex
      subst ex2
      have hl : ls[i]? = some (ls[i]'hi) := List.getElem?_eq_getElem hi
      have hmi : (V.ref hd :: more)[i + 1]? = some (more[i]'(by omega)) := by rw [List.getElem?_cons_succ]; exact List.getElem?_eq_getElem (by omega)
      have hmi0 : more[i]? = some (more[i]'(by omega)) := List.getElem?_eq_getElem (by omega)
      obtain ⟨l', hl', b, eb1, hb⟩ := pat pt6 hmi0
      have e' : l' = ls[i]'hi := Option.some.inj (hl'.symm.trans hl)
      subst e'
      have Li := hln _ (List.mem_cons_of_mem _ (List.getElem_mem hi))
      generalize ls[i]'hi = l at hl hb Li
      rw [eb1] at hmi
      have s68 : Same H H8 := fun b o y => s8 _ _ (s6 _ _ y)
      have hb8 := s8 _ _ hb
      obtain ⟨f12, f30⟩ := linew_few Li
      have ahead : ∀ j, j < i → LineOk z.cps.size ls.length ls j := fun j hj => by
        have hjl : ls[j]? = some (ls[j]'(by omega)) := List.getElem?_eq_getElem (by omega)
        have hj2 : (ls.take i)[j]? = some (ls[j]'(by omega)) := by rw [List.getElem?_take_of_lt hj]; exact hjl
        obtain ⟨x, _, gx⟩ := pat pk hj2
        exact ⟨by omega, _, x.1, x.2, hjl, gx⟩
      have one : V.int (((i + 1 : Nat) : Int) + 1) = V.int ((i + 2 : Nat) : Int) := congrArg V.int (by omega)
      have stop : ¬ LineOk z.cps.size ls.length ls i → ∀ {H9 : Hp}, Same H H9 → 2 ≤ sizeLine ∧ ∀ p, H9 p = none → Q (.ref p) (upd H9 p (.tup [.str "line", .int (((i + 1 : Nat) : Int) + 1)])) := fun no H9 s9 => by
        rw [one]
        exact tell (i + 2) s9 (.inr ⟨z, hsg, .inr ⟨i, hi, rfl, ahead, no⟩⟩)
      have notl : (∀ ws e, ¬ GoodL z.cps.size ls.length l ws e) → ¬ LineOk z.cps.size ls.length ls i := fun no ⟨_, l', ws, e, e1, g⟩ => by
        rw [hl] at e1
        cases e1
        exact no ws e g
      -- words
      refine ⟨_, rfl, _, rfl, D, _, _, _, rfl, rfl, SqL.of (s8 _ _ hacc6), atI_nat hmi, ?_⟩
      -- k > 16
      refine ⟨_, rfl, _, _, rfl, rfl, _, rfl, ?_⟩
      by_cases c16 : 16 ≤ i
      · rw [decide_eq_true (by omega : (16 : Int) < ((i + 1 : Nat) : Int))]
        refine iteT ⟨_, rfl, _, _, rfl, rfl, ?_⟩
        exact stop (fun y => by have := y.1; omega) s68
      rw [decide_eq_false (by omega : ¬ (16 : Int) < ((i + 1 : Nat) : Int))]
      refine iteF ?_
      -- too few words
      refine ⟨_, rfl, .ref b, (lineW l).length, rfl, .inl ⟨_, SqL.of hb8, by rw [List.length_map]⟩, _, rfl, _, _, rfl, rfl, _, rfl, ?_⟩
      by_cases c8 : (lineW l).length ≤ z.cps.size
      · rw [decide_eq_true (by omega : ((lineW l).length : Int) ≤ (z.cps.size : Int))]
        refine iteT ⟨_, rfl, _, _, rfl, rfl, ?_⟩
        exact stop (notl fun ws e g => by have := (good_parts g).1; omega) s68
      rw [decide_eq_false (by omega : ¬ ((lineW l).length : Int) ≤ (z.cps.size : Int))]
      refine iteF ?_
      -- the bar
      obtain ⟨wx, hwx⟩ : ∃ wx, (lineW l)[z.cps.size]? = some wx := ⟨_, List.getElem?_eq_getElem (by omega)⟩
      have hwx2 : ((lineW l).map V.str)[z.cps.size]? = some (V.str wx) := by rw [List.getElem?_map, hwx]; rfl
      refine ⟨_, rfl, _, rfl, b, _, _, _, rfl, rfl, SqL.of hb8, atI_nat hwx2, rfl, _, rfl, ?_⟩
      by_cases c9 : V.str wx = V.str "|"
      rotate_left
      · refine ifTn c9 ⟨_, rfl, _, _, rfl, rfl, ?_⟩
        exact stop (notl fun ws e g => by
          have := (good_parts g).2.1
          rw [hwx] at this
          exact c9 (congrArg V.str (Option.some.inj this))) s68
      refine ifFn c9 ?_
      have ewx : wx = "|" := by injection c9
      -- the keys at the end
      have cutE : cutV ((lineW l).map V.str) (some ((z.cps.size : Int) + 1)) none = ((lineW l).drop (z.cps.size + 1)).map V.str := by
        have := cut_after (lineW l) (z.cps.size + 1) (by omega)
        rw [show (((z.cps.size + 1 : Nat)) : Int) = (z.cps.size : Int) + 1 by omega] at this
        exact this
      refine ⟨_, rfl, _, rfl, _, _, rfl, rfl, _, rfl, b, _, rfl, SqL.of hb8, fun l9 hl9 => ?_⟩
      rw [cutE]
      have ksh : ShW ((lineW l).drop (z.cps.size + 1)) := fun y hy => by
        have := f30 y (List.mem_of_mem_drop hy)
        exact ⟨by omega, this.2⟩
      refine ⟨l9, _, rfl, upd_same, by rw [List.length_drop, eb]; omega, ksh, fun H9 s9 => ?_⟩
      have s89 : Same H8 H9 := fun b o y => s9 _ _ (Same.upd hl9 _ _ y)
      refine ⟨_, rfl, ?_⟩
      cases ek : keysOk ((lineW l).drop (z.cps.size + 1)) with
      | false =>
        refine ⟨_, rfl, _, _, rfl, rfl, ?_⟩
        exact stop (notl fun ws e g => by have := (good_parts g).2.2.1; rw [ek] at this; cases this) fun b o y => s89 _ _ (s68 _ _ y)
      | true =>
      have hb9 := s89 _ _ hb8
      have hacc9 := s89 _ _ (s8 _ _ hacc6)
      -- ways
      refine ⟨_, rfl, _, rfl, _, rfl, b, _, rfl, SqL.of hb9, fun la hla => ?_⟩
      rw [cut_words]
      refine ⟨la, rfl, ⟨_, SqL.of upd_same⟩, fun Dw hDw => ?_⟩
      have sa : Same H9 (upd H9 la (.lst (((lineW l).take z.cps.size).map V.str))) := Same.upd hla
      have hla1 : (upd H9 la (.lst (((lineW l).take z.cps.size).map V.str))) la = some (.lst (((lineW l).take z.cps.size).map V.str)) := upd_same
      have nDw9 : H9 Dw = none := sa.free hDw
      generalize upd H9 la (.lst (((lineW l).take z.cps.size).map V.str)) = Ha at sa hla1 hDw ⊢
      refine lcs_it [some (.ref q), some (.ref D), some (.str aLet), some (.ref hd), some (.int (z.cps.size : Nat)), some (.ref F), some (.ref G), some (.int ((i + 1 : Nat) : Int)), some (.ref b), x9, none, none, none, none] rfl walk_list (fun j H' => Same Ha H' ∧ ∃ acc, H' Dw = some (.lst acc) ∧ acc.length = j ∧ Paired (fun v z' => WayL ls.length z' H' v) acc (((lineW l).take z.cps.size).take j)) ⟨Same.upd hDw, [], upd_same, rfl, .nil⟩ (fun j H' _ y => SqL.of (y.1 _ _ hla1)) ?_ ?_
      · rintro j x _ Hb hj ⟨sb, acc, hacc, lac, pac⟩ ⟨rfl, hx⟩
        rw [List.getElem?_map] at hx
        obtain ⟨zj, hzj, rfl⟩ := Option.map_eq_some_iff.mp hx
        have hz30 := f30 zj (List.mem_of_mem_take (List.mem_of_getElem? hzj))
        refine ⟨rfl, _, rfl, _, rfl, .ref D, ls.length + 1, rfl, .inl ⟨_, SqL.of (sb _ _ (sa _ _ hacc9)), lrows.symm⟩, _, _, rfl, rfl, zj, ls.length, (show [V.str zj, V.int (((ls.length + 1 : Nat) : Int) - 1)] = [V.str zj, V.int (ls.length : Nat)] by rw [show ((ls.length + 1 : Nat) : Int) - 1 = ((ls.length : Nat) : Int) by omega]), by omega, hz30.2, by omega, fun v Hc sc' wl => ?_⟩
        refine ⟨acc, sc' _ _ hacc, ?_, fun b o y => ?_, acc ++ [v], upd_same, by rw [List.length_append, lac]; rfl, ?_⟩
        · rw [List.length_map, List.length_take] at hj
          rw [lac, sizeLine_eq]
          omega
        · rw [upd_ne (ne_of_none y hDw)]
          exact sc' _ _ (sb _ _ y)
        · have kt : ∀ b xs, Hc b = some (.tup xs) → (upd Hc Dw (.lst (acc ++ [v]))) b = some (.tup xs) := upd_tups (sc' _ _ hacc)
          rw [List.take_add_one, hzj]
          exact psnoc (L2.Paired.mapP pac fun _ _ y => y.keep fun b xs e => kt b xs (sc' _ _ e)) (wl.keep kt)
      rintro Hb ⟨sb, wacc, hwacc, lwa, pwa⟩
      rw [List.length_map] at lwa pwa
      rw [List.take_length] at pwa
      rw [List.length_take] at lwa
      have sb9 : Same H9 Hb := fun b o y => sb _ _ (sa _ _ y)
      -- the ways that are none
      refine ⟨_, rfl, Dw, rfl, ⟨_, SqL.of hwacc⟩, fun D2 hD2 => ?_⟩
      refine lcs_it [some (.ref q), some (.ref D), some (.str aLet), some (.ref hd), some (.int (z.cps.size : Nat)), some (.ref F), some (.ref G), some (.int ((i + 1 : Nat) : Int)), some (.ref b), some (.ref Dw), none, none, none, none] rfl walk_list (fun j H' => Same Hb H' ∧ ∃ n : Nat, H' D2 = some (.lst (List.replicate n V.non)) ∧ n ≤ j ∧ (n = 0 ↔ ∀ v ∈ wacc.take j, v ≠ V.non)) ⟨Same.upd hD2, 0, upd_same, Nat.le_refl _, ⟨fun _ v h => (nomatch h), fun _ => rfl⟩⟩ (fun j H' _ y => SqL.of (y.1 _ _ hwacc)) ?_ ?_
      · rintro j x _ Hc hj ⟨sc', n, hn, nj, nz⟩ ⟨rfl, hx⟩
        have tk : wacc.take (j + 1) = wacc.take j ++ [x] := by rw [List.take_add_one, hx]; rfl
        refine ⟨rfl, _, rfl, rfl, _, rfl, ?_⟩
        by_cases cx2 : x = V.non
        · rw [decide_eq_true cx2]
          refine ⟨_, rfl, _, hn, by rw [List.length_replicate, sizeLine_eq]; omega, fun b o y => ?_, n + 1, ?_, by omega, ⟨fun y => absurd y (by omega), fun y => absurd cx2 (y x (by rw [tk]; simp))⟩⟩
          · rw [upd_ne (ne_of_none y hD2)]
            exact sc' _ _ y
          · rw [upd_same, List.replicate_succ', cx2]
        · rw [decide_eq_false cx2]
          refine ⟨sc', n, hn, by omega, ⟨fun y v hv => ?_, fun y => nz.mpr fun v hv => y v (by rw [tk]; exact List.mem_append_left _ hv)⟩⟩
          rw [tk] at hv
          rcases List.mem_append.mp hv with hv | hv
          · exact nz.mp y v hv
          · rw [List.mem_singleton.mp hv]
            exact cx2
      rintro Hc ⟨sc', n, hn, nj, nz⟩
      rw [List.take_length] at nz
      refine ⟨by decide, fun e1 he1 => ?_⟩
      refine ⟨.list (List.replicate n PyData.none), .list [], .lst (SqL.of (Same.upd he1 _ _ hn)) (dp_nones K _ _), .lst (SqL.of upd_same) .nil, (Sh.list (n := 0) fun x hx => ?_).ok (by decide), (Sh.list (n := 0) fun x hx => by cases hx).ok (by decide), _, rfl, ?_⟩
      · rw [List.eq_of_mem_replicate hx]
        exact ⟨by simp [PyData.canLay0], by rw [PyData.depth]; omega⟩
      rw [eqv_nones]
      have sd9 : Same H9 (upd Hc e1 (.lst [])) := fun b o y => Same.upd he1 _ _ (sc' _ _ (sb9 _ _ y))
      have s8d : Same H8 (upd Hc e1 (.lst [])) := fun b o y => sd9 _ _ (s89 _ _ y)
      have hwd := Same.upd (o := .lst ([] : List V)) he1 _ _ (sc' _ _ hwacc)
      have pwd : Paired (fun v z' => WayL ls.length z' (upd Hc e1 (.lst [])) v) wacc ((lineW l).take z.cps.size) := L2.Paired.mapP pwa fun _ _ y => y.keep fun b xs e => Same.upd he1 _ _ (sc' _ _ e)
      generalize upd Hc e1 (.lst []) = Hd at sd9 s8d hwd pwd ⊢
      rcases ways_all pwd with ⟨all, ws, hws, rws⟩ | ⟨⟨u, hu, eu⟩, no⟩
      rotate_left
      · have n0 : ¬ n = 0 := fun y => nz.mp y u hu eu
        refine ifTn n0 ⟨_, rfl, _, _, rfl, rfl, ?_⟩
        exact stop (notl fun ws e g => no ⟨ws, (good_parts g).2.2.2⟩) fun b o y => s8d _ _ (s68 _ _ y)
      refine ifFn (nz.mpr all) ?_
      have gl := good_iff hwx ewx hws ek
      -- found.append(tuple(ways))
      have hFd := s8d _ _ hF8
      have hGd := s8d _ _ hG8
      refine ⟨_, rfl, .inl ⟨rfl, _, SqL.of hFd⟩, _, rfl, .inl ⟨Dw, wacc, rfl, SqL.of hwd, fun t1 ht1 => ?_⟩⟩
      refine ⟨F, fv, _, rfl, rfl, Same.upd ht1 _ _ hFd, by rw [lf, sizeLine_eq]; omega, ?_⟩
      have t1F : t1 ≠ F := fun y => by rw [y, hFd] at ht1; cases ht1
      have he5 : (upd (upd Hd t1 (.tup wacc)) F (.lst (fv ++ [.ref t1]))) F = some (.lst (fv ++ [.ref t1])) := upd_same
      have hg5 : (upd (upd Hd t1 (.tup wacc)) F (.lst (fv ++ [.ref t1]))) G = some (.lst gv) := by
        rw [upd_ne FG.symm]
        exact Same.upd ht1 _ _ hGd
      have ht5 : (upd (upd Hd t1 (.tup wacc)) F (.lst (fv ++ [.ref t1]))) t1 = some (.tup wacc) := by rw [upd_ne t1F, upd_same]
      have far5 : ∀ b o, Hd b = some o → b ≠ F → (upd (upd Hd t1 (.tup wacc)) F (.lst (fv ++ [.ref t1]))) b = some o := fun b o y nb => by
        rw [upd_ne nb]
        exact Same.upd ht1 _ _ y
      generalize upd (upd Hd t1 (.tup wacc)) F (.lst (fv ++ [.ref t1])) = He at he5 hg5 ht5 far5 ⊢
      have bF : b ≠ F := fun y => by
        rw [y] at hb
        rw [hb] at hF
        cases hF
      have hb5 := far5 _ _ (sd9 _ _ hb9) bF
      -- ends.append(tuple(sorted(..)))
      refine ⟨_, rfl, .inl ⟨rfl, _, SqL.of hg5⟩, _, rfl, _, rfl, _, _, rfl, rfl, _, rfl, b, _, rfl, SqL.of hb5, fun l5 hl5 => ?_⟩
      rw [cutE]
      refine ⟨l5, _, rfl, SqL.of upd_same, by rw [List.length_drop]; omega, fun ys p6 pm srt hp6 => ?_⟩
      have nd : ((lineW l).drop (z.cps.size + 1)).Nodup := by
        unfold keysOk at ek
        rw [Bool.and_eq_true] at ek
        exact of_decide_eq_true ek.1
      have ey : ys = kl ((lineW l).drop (z.cps.size + 1)) := kl_of pm srt nd fun y => Iff.rfl
      subst ey
      refine .inl ⟨p6, _, rfl, SqL.of upd_same, fun t2 ht2 => ?_⟩
      have sf : Same He (upd (upd (upd He l5 (.lst (((lineW l).drop (z.cps.size + 1)).map V.str))) p6 (.lst ((kl ((lineW l).drop (z.cps.size + 1))).map V.str))) t2 (.tup ((kl ((lineW l).drop (z.cps.size + 1))).map V.str))) := fun b o y => Same.upd ht2 _ _ (Same.upd hp6 _ _ (Same.upd hl5 _ _ y))
      have ht2f : (upd (upd (upd He l5 (.lst (((lineW l).drop (z.cps.size + 1)).map V.str))) p6 (.lst ((kl ((lineW l).drop (z.cps.size + 1))).map V.str))) t2 (.tup ((kl ((lineW l).drop (z.cps.size + 1))).map V.str))) t2 = some (.tup ((kl ((lineW l).drop (z.cps.size + 1))).map V.str)) := upd_same
      generalize upd (upd (upd He l5 (.lst (((lineW l).drop (z.cps.size + 1)).map V.str))) p6 (.lst ((kl ((lineW l).drop (z.cps.size + 1))).map V.str))) t2 (.tup ((kl ((lineW l).drop (z.cps.size + 1))).map V.str)) = Hf at sf ht2f ⊢
      refine ⟨G, gv, _, rfl, rfl, sf _ _ hg5, by rw [lg, sizeLine_eq]; omega, ?_⟩
      have kt : ∀ b xs, Hf b = some (.tup xs) → (upd Hf G (.lst (gv ++ [.ref t2]))) b = some (.tup xs) := upd_tups (sf _ _ hg5)
      have kd : ∀ b xs, Hd b = some (.tup xs) → (upd Hf G (.lst (gv ++ [.ref t2]))) b = some (.tup xs) := fun b xs y => kt _ _ (sf _ _ (far5 _ _ y fun e => by rw [e, hFd] at y; cases y))
      refine ⟨⟨_, _, _, rfl⟩, fun b' o y => ?_, fv ++ [.ref t1], gv ++ [.ref t2], rs ++ [(ws, (lineW l).drop (z.cps.size + 1))], by rw [upd_ne FG]; exact sf _ _ he5, upd_same, by rw [List.length_append, lf]; rfl, by rw [List.length_append, lg]; rfl, ?_, ?_, ?_, by omega⟩
      · rw [upd_ne (ne_of_none y nG6)]
        exact sf _ _ (far5 _ _ (s8d _ _ (s8 _ _ y)) (ne_of_none y hF))
      · rw [List.map_append, List.map_append]
        exact psnoc (L2.Paired.mapP pf fun _ _ y => y.keep fun b xs e => kd _ _ (s8d _ _ e)) ⟨t1, wacc, rfl, kt _ _ (sf _ _ ht5), L2.Paired.mapP rws fun _ _ y => y.keep kd⟩
      · rw [List.map_append, List.map_append]
        exact psnoc (L2.Paired.mapP pg fun _ _ y => y.keep fun b xs e => kd _ _ (s8d _ _ e)) ⟨t2, rfl, kt _ _ ht2f⟩
      · rw [List.take_add_one, hl]
        exact psnoc pk gl
    · rintro σ H8 ⟨⟨x7, x8, x9, rfl⟩, s8, fv, gv, rs, hF8, hG8, lf, lg, pf, pg, pk, i16⟩
      rw [List.take_length] at pk
      have lrs : rs.length = ls.length := (Paired.length pk).symm
      obtain ⟨kb1, kb2⟩ := keys_bound pk z4 fun l h => hln l (List.mem_cons_of_mem _ h)
      have n1 := len_nrm (rs.map (·.1))
      have n2 := len_ends (rs.map (·.2))
      refine ⟨_, rfl, hd, _, 1, _, rfl, rfl, SqL.of (s8 _ _ hh6), i1, _, rfl, _, rfl, z, F, G, fv, gv, _, _, rfl, hF8, pf, hG8, pg, ?_, by rw [List.length_map, List.length_map]; omega, by rw [List.length_map, List.length_map]; omega, by rw [List.length_append, eb]; omega, fun v H9 s9 dp rf => ?_⟩
      · intro e
        have := congrArg List.length e
        rw [List.length_map, List.length_map] at this
        simp at this
        rw [this] at lrs
        exact c7 lrs.symm
      · exact k v _ H9 (fun b o y => s9 _ _ (s8 _ _ (s6 _ _ y))) (.inr ⟨z, rs, hsg, by omega, i16, pk, rfl⟩) dp rf
end
end Kx

namespace Kx
open PySem L2 Own
abbrev s__law_told : Stmt := top 41
/-! ### one thing is told of lines -/
theorem nolast {many m : Nat} {ls : List Str} {rs : List (List Way × List Str)} (h : Paired (fun l (x : List Way × List Str) => GoodL many m l x.1 x.2) ls rs) (l16 : ls.length ≤ 16) : ∀ i, i < ls.length → LineOk many m ls i := fun i hi => by
  have hl : ls[i]? = some (ls[i]'hi) := List.getElem?_eq_getElem hi
  obtain ⟨x, _, gx⟩ := pat h hl
  exact ⟨by omega, _, x.1, x.2, hl, gx⟩
theorem wrong_one {l0 : Str} {ls : List Str} {n m : Nat} (h : Wrong l0 ls n) (g : Wrong l0 ls m) : n = m := by
  rcases h with ⟨h1, h2⟩ | ⟨sg, h1, h2⟩
  · rcases g with ⟨_, g2⟩ | ⟨sg', g1, _⟩
    · rw [h2, g2]
    · rw [h1] at g1; cases g1
  · rcases g with ⟨g1, _⟩ | ⟨sg', g1, g2⟩
    · rw [h1] at g1; cases g1
    · rw [h1] at g1
      cases g1
      rcases h2 with ⟨e1, e2⟩ | ⟨i, i1, i2, i3, i4⟩
      · rcases g2 with ⟨_, d2⟩ | ⟨j, j1, _⟩
        · rw [e2, d2]
        · rw [e1] at j1; exact absurd j1 (Nat.not_lt_zero _)
      · rcases g2 with ⟨d1, _⟩ | ⟨j, j1, j2, j3, j4⟩
        · rw [d1] at i1; exact absurd i1 (Nat.not_lt_zero _)
        · rcases Nat.lt_trichotomy i j with c | c | c
          · exact absurd (j3 i c) i4
          · rw [i2, j2, c]
          · exact absurd (i3 j c) j4
theorem told_one {l0 : Str} {ls : List Str} {D D' : PyData} (h : Told l0 ls D) (g : Told l0 ls D') : D = D' := by
  have both : ∀ {n sg rs}, Wrong l0 ls n → signsOf l0 = some sg → 1 ≤ ls.length → ls.length ≤ 16 → Paired (fun l (x : List Way × List Str) => GoodL sg.cps.size ls.length l x.1 x.2) ls rs → False := fun {n sg rs} wr hs m1 m16 pk => by
    rcases wr with ⟨h1, _⟩ | ⟨sg', h1, h2⟩
    · rw [h1] at hs; cases hs
    · rw [h1] at hs
      cases hs
      rcases h2 with ⟨e1, _⟩ | ⟨i, i1, _, _, i4⟩
      · rw [e1] at m1; exact absurd m1 (by decide)
      · exact i4 (nolast pk m16 i i1)
  rcases h with ⟨n, h1, rfl⟩ | ⟨sg, rs, h1, h2, h3, h4, rfl⟩
  · rcases g with ⟨m, g1, rfl⟩ | ⟨sg', rs', g1, g2, g3, g4, rfl⟩
    · rw [wrong_one h1 g1]
    · exact (both h1 g1 g2 g3 g4).elim
  · rcases g with ⟨m, g1, rfl⟩ | ⟨sg', rs', g1, g2, g3, g4, rfl⟩
    · exact (both g1 h1 h2 h3 h4).elim
    · rw [h1] at g1
      cases g1
      rw [goodl_all h4 g4]
structure TxtTo (K : PySem.W.Frag) (mg : Str → Option Value) (A : EAd) (C f : Addr) (d : FuncData) : Prop where
  D__law_told : DefT K mg "_law_told" "_law_told" s__law_told ["lines"] f d
  e11 : PySem.W.exmOne K (.ref C) (.ref C) = some true
  e21 : PySem.W.exmOne K (.ref A.c2) (.ref C) = some false
  e22 : PySem.W.exmOne K (.ref A.c2) (.ref A.c2) = some true
section
variable {P : Program} {w : World} {K : PySem.W.Frag} {mg : Str → Option Value} {base : Heap} {L : TAd} {A : EAd} {B : MAd} {Z : CAd} {f1 f2 f3 f4 f5 : Addr} {d1 d2 d3 d4 d5 : FuncData} {mc : Value} {pr g C I f : Addr} {dg eb d : FuncData}
/-- a line without a line feed -/
def LnF (l : Str) : Prop := LnI l ∧ 10 ∉ TL.tl l
theorem ask_word {z : Str} (l : z.length ≤ 1000) : AskW z := by
  have P : Parts z (Txt.split z "+") := split_facts (s := 43) rfl (by decide +kernel)
  have eb : scanBound = 4096 := rfl
  have zl : z.cps.size ≤ 1000 := l
  refine ⟨by rw [sizeLine_eq]; omega, ?_⟩
  cases e : Txt.split z "+" with
  | nil => exact absurd e P.ne
  | cons x xs =>
    have h1 := len_le_sum (Txt.split z "+")
    rw [P.sum, e, List.length_cons] at h1
    refine ⟨x, xs, rfl, by omega, fun u hu => ?_⟩
    have := (P.len u (by rw [e]; exact List.mem_cons_of_mem _ hu)).1
    show u.length ≤ _
    rw [sizeLine_eq]
    omega
theorem ask_ln {l : Str} (L : LnI l) : AskL l := by
  have h := ln_len L
  have eb : scanBound = 4096 := rfl
  have lz : l.cps.size ≤ 400 := h
  have := L.few
  refine ⟨by rw [sizeLine_eq]; omega, by omega, fun z hz => ask_word ?_⟩
  have := ((linew_few L).2 z hz).1
  omega
theorem lines_total {ls : List Str} (h : ∀ l ∈ ls, LnI l) (l : ls.length ≤ 101) : (ls.map (·.length)).sum + ls.length * ("\n" : Str).length ≤ 100000 := by
  have := sum_le 400 (ls.map (·.length)) fun x hx => by
    obtain ⟨y, hy, rfl⟩ := List.mem_map.mp hx
    exact ln_len (h y hy)
  rw [List.length_map] at this
  have e1 : ("\n" : Str).length = 1 := rfl
  rw [e1]
  omega
def spTold6 (K : PySem.W.Frag) : Sp := fun vs H Q _ => ∃ (q : Addr) (l0 : Str) (ls : List Str), vs = [.ref q] ∧ H q = some (.lst ((l0 :: ls).map V.str)) ∧ ls.length ≤ 100 ∧ (∀ l ∈ l0 :: ls, LnF l) ∧
  ∀ v D H', Same H H' → Told l0 ls D → Dp K H' v D → (∃ p, v = .ref p) → Q v H'
theorem sc_told : FnScope ["lines", "made", "e"] ["lines"] (defScope s__law_told) := ⟨rfl, rfl, rfl, by decide +kernel, rfl, by decide +kernel, by decide +kernel⟩
theorem ok_told (TM : TxtM K mg B) (TE : TxtE K mg A) (TB : TxtBt K mg A C I eb) (TC : TxtC K mg Z) (TP : TxtRp K mg L f1 f2 f3 f4 f5 d1 d2 d3 d4 d5) (TR : TxtRd K mg Z mc pr g dg) (T : TxtTo K mg A C f d) : FnOk P w K mg base CX0 8 f d ["lines"] (spTold6 K) := by
  have sc := sc_told
  have G_read : FnOk P w K mg base (L2.CX P w) 7 g dg ["cls", "text"] (spMRead A Z C) := ok_mread TM TE TB TC TP TR
  refine T.D__law_told.F.ok sc (fun vs H Q E h => ?_) (fun cdv A1 outer s H vs Q E hr h => ?_)
  · obtain ⟨_, _, _, rfl, _⟩ := h; rfl
  · obtain ⟨q, l0, ls, rfl, hq, l100, hln, k⟩ := h
    refine ⟨_, (pss_cons (ps_try_asL (tb := fun W => tAsg (tCMethS Z.C (fun vs H Q E => spMRead A Z C (vs ++ []) H Q E) (WE W) (tC (.ref Z.C)) (tCons (tM1 (rJoin K) (tC (.str "\n")) (tVar 0)) tNil)) (gName 1))
      (cs := [(.ref C, 2, tRet (tTup (tCons (tC (.str "line")) (tCons (tXfT K "line" (tVar 2)) tNil)))), (.ref A.c2, 2, tRet (tTup (tCons (tC (.str "many")) (tCons (tXfT K "what" (tVar 2)) tNil))))]) rfl rfl rfl sc.nd
      (.cons rfl rfl ⟨rfl, by decide, .inl TB.E_BadText.g⟩ (fun a pn => (pss_one (ps_ret (pe_tup (pa_cons pe_str (pa_cons (pe_xfT (pv 2)) pa_nil))))))
      (.cons rfl rfl ⟨rfl, by decide, .inl TE.E_TooMany.g⟩ (fun a pn => (pss_one (ps_ret (pe_tup (pa_cons pe_str (pa_cons (pe_xfT (pv 2)) pa_nil)))))) .nil))
      (fun W pn xe tk => (pss_one (ps_set (i := 1) sc.nd rfl (Or.inl rfl) (pe_cmethS (pe_glob (v := .ref Z.C) rfl TC.g rfl) TR.r TR.c (G_read.raw TR.b .nil) (hr.mono (by decide)) (fun σ => passAt tk σ) (pa_cons (pe_join pe_str (pv 0)) pa_nil))))))
      (pss_one (ps_ret (pe_tup (pa_cons (pe_fld (pv 1) rfl) (pa_cons (pe_fld (pv 1) rfl) (pa_cons (pe_fld (pv 1) rfl) pa_nil))))))), ?_⟩
    have tot := lines_total (ls := l0 :: ls) (fun l hl => (hln l hl).1) (by rw [List.length_cons]; omega)
    have jl : (Txt.join "\n" (l0 :: ls)).length ≤ 100000 := Nat.le_trans (join_len _ _) tot
    have eb : scanBound = 4096 := rfl
    refine ⟨rfl, ⟨_, rfl⟩, _, rfl, "\n", q, l0 :: ls, rfl, rfl, .inl (SqL.of hq), Nat.le_trans tot (by decide), ?_⟩
    refine ⟨Txt.join "\n" (l0 :: ls), l0, ls, rfl, ?_, ?_, by omega, ask_ln (hln l0 List.mem_cons_self).1, fun l hl => ask_ln (hln l (List.mem_cons_of_mem _ hl)).1, ?_, ?_⟩
    · have : (Txt.join "\n" (l0 :: ls)).cps.size ≤ 100000 := jl
      rw [sizeLine_eq]
      omega
    · exact TL.split_join (y := "\n") (s := 10) (S := []) rfl (by decide +kernel) (by simp) fun p hp => (hln p hp).2
    · intro n d1 H1 wr hd s1 h1
      refine .inl ⟨T.e11, C, rfl, fun a ha => ?_⟩
      have nda : d1 ≠ a := ne_of_none h1 ha
      have hd1 : (upd H1 a (xob a C (some d1))) d1 = some (.xd [("line", .int n)]) := by rw [upd_ne nda]; exact h1
      refine ⟨_, rfl, a, C, d1, _, _, rfl, TB.E_BadText.xf, TB.N_line, upd_same, hd1, rfl, by show 2 ≤ sizeLine; decide, fun p hp => ?_⟩
      exact k _ _ _ (fun b o z => Same.upd hp _ _ (Same.upd ha _ _ (s1 _ _ z))) (.inl ⟨n, wr, rfl⟩) (.tup (SqT.of upd_same) (.cons (.str _) (.cons (.int _) .nil))) ⟨_, rfl⟩
    · intro sg rs hsg m1 m16 pk
      have sg4 := signsOk_four (signsOf_ok hsg).1
      obtain ⟨kb1, kb2⟩ := keys_bound pk sg4 fun l h => (hln l (List.mem_cons_of_mem _ h)).1
      have lrs : rs.length = ls.length := (Paired.length pk).symm
      have told : Told l0 ls (tabD sg ((rs.map (·.1)).map nrm) ((rs.map (·.2)).map kl)) := .inr ⟨sg, rs, hsg, m1, m16, pk, rfl⟩
      have same : (kl (keysOfRows ((rs.map (·.1)).map nrm) ++ ((rs.map (·.2)).map kl).flatten)) = kl (keysR rs) := kl_congr fun y => by
        rw [List.mem_append, List.mem_append, mem_nrm, mem_ends]
      refine ⟨by rw [List.length_append, eb]; omega, fun big d1 H1 hd s1 h1 => ?_, fun small p H1 np s1 ma => ?_⟩
      · refine .inr ⟨T.e21, .inl ⟨T.e22, A.c2, rfl, fun a ha => ?_⟩⟩
        have nda : d1 ≠ a := ne_of_none h1 ha
        have hd1 : (upd H1 a (xob a A.c2 (some d1))) d1 = some (.xd [("what", .str "keys")]) := by rw [upd_ne nda]; exact h1
        refine ⟨_, rfl, a, A.c2, d1, _, _, rfl, TE.E_TooMany.xf, TE.N_what, upd_same, hd1, rfl, by show 2 ≤ sizeLine; decide, fun p hp => ?_⟩
        refine k _ _ _ (fun b o z => Same.upd hp _ _ (Same.upd ha _ _ (s1 _ _ z))) told ?_ ⟨_, rfl⟩
        unfold tabD
        rw [same, if_pos big]
        exact .tup (SqT.of upd_same) (.cons (.str _) (.cons (.str _) .nil))
      · obtain ⟨dx, r, e, k0, w5, rv, ev, wv, hm0, hr0, pr', he0, pe', hk0, hw0, pw⟩ := ma
        refine ⟨_, rfl, p, Z.C, dx, _, _, rfl, hm0, TC.cl, TC.a1, rfl, _, rfl, p, Z.C, dx, _, _, rfl, hm0, TC.cl, TC.a2, rfl, _, rfl, p, Z.C, dx, _, _, rfl, hm0, TC.cl, TC.a3, rfl, by show 3 ≤ sizeLine; decide, fun t ht => ?_⟩
        have st := Same.upd (o := .tup [.str sg, .ref r, .ref e]) ht
        refine k _ _ _ (fun b o z => st _ _ (s1 _ _ z)) told ?_ ⟨_, rfl⟩
        unfold tabD
        rw [same, if_neg (by omega)]
        refine .tup (SqT.of upd_same) (.cons (.str _) (.cons ?_ (.cons ?_ .nil)))
        · exact .tup (SqT.of (st _ _ hr0)) (dp_map (fun _ _ z => dp_row z) (L2.Paired.mapP pr' fun _ _ z => z.keep (tups st)))
        · exact .tup (SqT.of (st _ _ he0)) (dp_map (fun _ _ z => dp_keys z) (L2.Paired.mapP pe' fun _ _ z => z.keep (tups st)))
end
end Kx

namespace Kx
open PySem L2 Own
/-! ### lines that are changed -/
theorem spl_free (s : Nat) : ∀ (l acc : List Nat), s ∉ acc → ∀ p ∈ TL.spl [s] 0 acc l, s ∉ p
  | [], acc, h, p, hp => by
    rw [TL.spl_nil] at hp
    rw [List.mem_singleton.mp hp]
    exact h
  | c :: r, acc, h, p, hp => by
    cases e : TL.pre [s] (c :: r) with
    | true =>
      rw [TL.spl_hit e] at hp
      rcases List.mem_cons.mp hp with rfl | hp
      · exact h
      · exact spl_free s r [] (by simp) p hp
    | false =>
      rw [TL.spl_miss e] at hp
      refine spl_free s r (acc ++ [c]) (fun m => ?_) p hp
      rcases List.mem_append.mp m with m | m
      · exact h m
      · rw [← List.mem_singleton.mp m] at e
        have : TL.pre [s] (s :: r) = true := TL.pre_self [s] r
        rw [this] at e
        cases e
theorem split_free {z y : Str} {s : Nat} (ey : TL.tl y = [s]) (hk : y.cps.all (· < 256) = true) : ∀ p ∈ Txt.split z y, s ∉ TL.tl p := fun p hp => by
  have e := TL.split_spl z y (by rw [ey]; simp) (TL.kind_ok hk)
  rw [ey] at e
  exact spl_free s (TL.tl z) [] (by simp) _ (by rw [← e]; exact List.mem_map_of_mem hp)
/-- a piece of a line -/
def Piece (z : Str) : Prop := z.length ≤ 30 ∧ 32 ∉ TL.tl z ∧ 10 ∉ TL.tl z ∧ PyData.strOk z = true
/-- a line of at most so many pieces -/
structure LnQ (k : Nat) (l : Str) : Prop where
  few : (Txt.split l " ").length ≤ k
  short : ∀ z ∈ Txt.split l " ", z.length ≤ 30
  ok : PyData.strOk l = true
  free : 10 ∉ TL.tl l
theorem LnQ.mono {k j : Nat} {l : Str} (h : LnQ k l) (s : k ≤ j) : LnQ j l := ⟨Nat.le_trans h.few s, h.short, h.ok, h.free⟩
theorem LnQ.lnf {k : Nat} {l : Str} (h : LnQ k l) (s : k ≤ 12) : LnF l := ⟨⟨Nat.le_trans h.few s, h.short, h.ok⟩, h.free⟩
theorem LnQ.pieces {k : Nat} {l : Str} (h : LnQ k l) : (∀ z ∈ Txt.split l " ", Piece z) ∧ Txt.split l " " ≠ [] ∧ (Txt.split l " ").length ≤ k := by
  have P : Parts l (Txt.split l " ") := split_facts (s := 32) rfl (by decide +kernel)
  exact ⟨fun z hz => ⟨h.short z hz, split_free (s := 32) rfl (by decide +kernel) z hz, fun m => h.free ((P.len z hz).2 _ m), ok_sub h.ok (P.len z hz).2⟩, P.ne, h.few⟩
theorem join_mem {y : Str} {c : Nat} {ws : List Str} (hc : c ∈ TL.tl (Txt.join y ws)) : c ∈ TL.tl y ∨ ∃ z ∈ ws, c ∈ TL.tl z := by
  have e : TL.tl (Txt.join y ws) = TL.joinL (TL.tl y) (ws.map TL.tl) := by rw [TL.join_eq, TL.tl_join]
  rw [e] at hc
  have go : ∀ {ps : List (List Nat)}, c ∈ TL.joinL (TL.tl y) ps → c ∈ TL.tl y ∨ ∃ p ∈ ps, c ∈ p := by
    intro ps
    induction ps with
    | nil => exact fun h => nomatch h
    | cons p r ih =>
      cases r with
      | nil => exact fun h => .inr ⟨p, List.mem_cons_self, h⟩
      | cons q r =>
        intro h
        rcases List.mem_append.mp h with h | h
        · exact .inr ⟨p, List.mem_cons_self, h⟩
        · rcases List.mem_append.mp h with h | h
          · exact .inl h
          · rcases ih h with h | ⟨u, hu, h⟩
            · exact .inl h
            · exact .inr ⟨u, List.mem_cons_of_mem _ hu, h⟩
  rcases go hc with h | ⟨p, hp, h⟩
  · exact .inl h
  · obtain ⟨z, hz, rfl⟩ := List.mem_map.mp hp
    exact .inr ⟨z, hz, h⟩
theorem split_plain {z y : Str} {s : Nat} (ey : TL.tl y = [s]) (hk : y.cps.all (· < 256) = true) (h : s ∉ TL.tl z) : Txt.split z y = [z] := by
  have := TL.split_join (y := y) (s := s) (S := []) ey hk (parts := [z]) (by simp) fun p hp => by rw [List.mem_singleton.mp hp]; exact h
  rw [TL.join_eq] at this
  exact this
/-- pieces, joined -/
theorem lnq_join {zs : List Str} {k : Nat} (h : ∀ z ∈ zs, Piece z) (l : zs.length ≤ k) (k1 : 1 ≤ k) : LnQ k (Txt.join " " zs) := by
  have ok : PyData.strOk (Txt.join " " zs) = true := by
    unfold PyData.strOk
    rw [← Array.all_toList, List.all_eq_true]
    intro c hc
    rcases join_mem hc with hc | ⟨z, hz, hc⟩
    · have : c = 32 := List.mem_singleton.mp hc
      rw [this]
      decide
    · have := (h z hz).2.2.2
      unfold PyData.strOk at this
      rw [← Array.all_toList, List.all_eq_true] at this
      exact this c hc
  have free : 10 ∉ TL.tl (Txt.join " " zs) := fun hc => by
    rcases join_mem hc with hc | ⟨z, hz, hc⟩
    · have : (10 : Nat) = 32 := List.mem_singleton.mp hc
      omega
    · exact (h z hz).2.2.1 hc
  cases zs with
  | nil =>
    have e : Txt.split (Txt.join " " ([] : List Str)) " " = [Txt.join " " []] := split_plain (s := 32) rfl (by decide +kernel) (by rw [TL.join_eq]; exact fun h => nomatch h)
    refine ⟨by rw [e]; exact k1, fun z hz => ?_, ok, free⟩
    rw [e] at hz
    rw [List.mem_singleton.mp hz, TL.join_eq]
    exact Nat.zero_le _
  | cons a r =>
    have e := TL.split_join (y := " ") (s := 32) (S := []) rfl (by decide +kernel) (parts := a :: r) (by simp) fun p hp => (h p hp).2.1
    exact ⟨by rw [e]; exact l, fun z hz => (h z (by rw [e] at hz; exact hz)).1, ok, free⟩
abbrev odd1 : List Str := ["|", "signs", "0", "1", "00", "0+", "0+x+x", "0+x+y", "15", "16", "-1", "+x", "x", "abcdefghijklm", "ab"]
abbrev odd2 : List Str := ["A", "a\tb", "aa", "abcd", "abcde", "1_0", "0+X", "01", "0+a+b+c+d+e+f+g+h+i+j+k+l+m"]
abbrev newl : List Str := ["", "0 |", "signs ab", "0 0 |", "|"]
theorem odd_pieces : ∀ z ∈ odd1 ++ odd2, Piece z := by
  have : ∀ z ∈ odd1 ++ odd2, z.length ≤ 30 ∧ 32 ∉ z.cps.toList ∧ 10 ∉ z.cps.toList ∧ PyData.strOk z = true := by decide +kernel
  exact this
theorem new_lines : ∀ l ∈ newl, LnQ 3 l := by
  have p1 : ∀ z ∈ (["0", "|", "signs", "ab", ""] : List Str), z.length ≤ 30 ∧ 32 ∉ z.cps.toList ∧ 10 ∉ z.cps.toList ∧ PyData.strOk z = true := by decide +kernel
  have pz : ∀ zs : List Str, (∀ z ∈ zs, z ∈ (["0", "|", "signs", "ab", ""] : List Str)) → zs.length ≤ 3 → LnQ 3 (Txt.join " " zs) := fun zs h l => lnq_join (fun z hz => p1 z (h z hz)) l (by decide)
  have e1 : ("" : Str) = Txt.join " " [("" : Str)] := by rw [TL.join_eq]; rfl
  have e2 : ("0 |" : Str) = Txt.join " " [("0" : Str), "|"] := by rw [TL.join_eq]; decide +kernel
  have e3 : ("signs ab" : Str) = Txt.join " " [("signs" : Str), "ab"] := by rw [TL.join_eq]; decide +kernel
  have e4 : ("0 0 |" : Str) = Txt.join " " [("0" : Str), "0", "|"] := by rw [TL.join_eq]; decide +kernel
  have e5 : ("|" : Str) = Txt.join " " [("|" : Str)] := by rw [TL.join_eq]; rfl
  intro l hl
  simp only [newl, List.mem_cons, List.not_mem_nil, or_false] at hl
  rcases hl with rfl | rfl | rfl | rfl | rfl
  · rw [e1]; exact pz _ (by simp) (by decide)
  · rw [e2]; exact pz _ (by simp) (by decide)
  · rw [e3]; exact pz _ (by simp) (by decide)
  · rw [e4]; exact pz _ (by simp) (by decide)
  · rw [e5]; exact pz _ (by simp) (by decide)
theorem cut_one (ws : List Str) (n : Nat) (h : n < ws.length) : cutV (ws.map V.str) (some (n : Int)) (some ((n : Int) + 1)) = ((ws.drop n).take 1).map V.str := by
  unfold cutV
  rw [show (n : Int) + 1 = ((n + 1 : Nat) : Int) by omega, HT.sIx_nat, HT.sIx_nat, List.length_map, Nat.min_eq_left (by omega), Nat.min_eq_left (by omega)]
  rw [show n + 1 - n = 1 by omega, List.map_take, List.map_drop]
theorem cut_next (ws : List Str) (n : Nat) (h : n < ws.length) : cutV (ws.map V.str) (some ((n : Int) + 1)) none = (ws.drop (n + 1)).map V.str := by
  rw [show (n : Int) + 1 = ((n + 1 : Nat) : Int) by omega]
  exact cut_after ws (n + 1) (by omega)
end Kx

namespace Kx
open PySem L2 Own
abbrev s__law_bent : Stmt := top 42
structure TxtBn (K : PySem.W.Frag) (mg : Str → Option Value) (f1 f2 f3 f : Addr) (d1 d2 d3 d : FuncData) : Prop where
  pen : TxtP K mg f1 f2 f3 d1 d2 d3
  D__law_bent : DefT K mg "_law_bent" "_law_bent" s__law_bent ["pen", "lines"] f d
  n_len : mg "len" = none
section
variable {P : Program} {w : World} {K : PySem.W.Frag} {mg : Str → Option Value} {base : Heap} {f1 f2 f3 f : Addr} {d1 d2 d3 d : FuncData}
def spBent : Sp := fun vs H Q _ => ∃ (p c q : Addr) (n k : Nat) (ls : List Str), vs = [.ref p, .ref q] ∧ PenAt H p c n ∧ n + 10 ≤ 1000000 ∧ H q = some (.lst (ls.map V.str)) ∧ 1 ≤ ls.length ∧ ls.length ≤ 90 ∧ 3 ≤ k ∧ k ≤ 20 ∧ (∀ l ∈ ls, LnQ k l) ∧
  ∀ (q' : Addr) (ls' : List Str) H', H' q' = some (.lst (ls'.map V.str)) → 1 ≤ ls'.length → ls'.length ≤ ls.length + 1 → (∀ l ∈ ls', LnQ (k + 1) l) → PenAt H' p c (n + 10) → SameBut p H H' → Q (.ref q') H'
abbrev Nbent : List Str := ["pen", "lines", "at", "sort", "words", "place", "odd"]
theorem sc_bent : FnScope Nbent ["pen", "lines"] (defScope s__law_bent) := ⟨rfl, rfl, rfl, by decide +kernel, rfl, by decide +kernel, by decide +kernel⟩
theorem int_eq (a b : Nat) : decide (V.int (a : Nat) = V.int (b : Nat)) = decide (a = b) := by
  rw [decide_eq_decide]
  exact ⟨fun z => Int.ofNat.inj (V.int.inj z), fun z => by rw [z]⟩
theorem ok_bent (T : TxtBn K mg f1 f2 f3 f d1 d2 d3 d) : FnOk P w K mg base CX0 3 f d ["pen", "lines"] spBent := by
  have sc := sc_bent
  have G_draw : FnOk P w K mg base CX0 1 f2 d2 ["pen", "many"] spDraw := ok_draw T.pen
  have G_pick : FnOk P w K mg base CX0 2 f3 d3 ["pen", "items"] spPick := ok_pick T.pen
  refine T.D__law_bent.F.ok sc (fun vs H Q E h => ?_) (fun cdv A1 outer s0 H vs Q E hr h => ?_)
  · obtain ⟨_, _, _, _, _, _, rfl, _⟩ := h; rfl
  · obtain ⟨p, c, q, n, k, ls, rfl, hp, hn, hq, l1, l90, k3, k20, hln, fin⟩ := h
    refine ⟨_, 
(pss_cons (ps_par (i := 2) (j := 3) rfl sc.nd rfl rfl (by decide) rfl rfl (pa_cons (pe_call G_draw (hr.mono (by decide)) rfl T.pen.D__law_draw.g T.pen.D__law_draw.F.kp T.pen.D__law_draw.b .nil pass0 (pa_cons (pv 0) (pa_cons (pe_callB call_len (by rfl) T.n_len (by decide +kernel) (pa_cons (pv 1) pa_nil)) pa_nil))) (pa_cons (pe_call G_draw (hr.mono (by decide)) rfl T.pen.D__law_draw.g T.pen.D__law_draw.F.kp T.pen.D__law_draw.b .nil pass0 (pa_cons (pv 0) (pa_cons pe_int pa_nil))) pa_nil)) rfl)
      (pss_cons (ps_set (i := 4) sc.nd rfl (Or.inl rfl) (pe_split (pe_ix ix_list (pv 1) (pv 2) (fun _ _ => rfl)) pe_str))
      (pss_cons (ps_set (i := 5) sc.nd rfl (Or.inl rfl) (pe_call G_draw (hr.mono (by decide)) rfl T.pen.D__law_draw.g T.pen.D__law_draw.F.kp T.pen.D__law_draw.b .nil pass0 (pa_cons (pv 0) (pa_cons (pe_callB call_len (by rfl) T.n_len (by decide +kernel) (pa_cons (pv 4) pa_nil)) pa_nil))))
      (pss_cons (ps_set (i := 6) sc.nd rfl (Or.inl rfl) (pe_lst (pa_cons pe_str (pa_cons pe_str (pa_cons pe_str (pa_cons pe_str (pa_cons pe_str (pa_cons pe_str (pa_cons pe_str (pa_cons pe_str (pa_cons pe_str (pa_cons pe_str (pa_cons pe_str (pa_cons pe_str (pa_cons pe_str (pa_cons pe_str (pa_cons pe_str pa_nil)))))))))))))))))
      (pss_cons (ps_set (i := 6) sc.nd rfl (Or.inl rfl) (pe_op op_cat (pv 6) (pe_lst (pa_cons pe_str (pa_cons pe_str (pa_cons pe_str (pa_cons pe_str (pa_cons pe_str (pa_cons pe_str (pa_cons pe_str (pa_cons pe_str (pa_cons pe_str pa_nil))))))))))))
      (pss_cons (ps_if (pt_cmpR op_eq (pv 3) pe_int (nomark _)) (pss_one (ps_ret (pe_ifExp (pt_cmpR op_gt (pe_callB call_len (by rfl) T.n_len (by decide +kernel) (pa_cons (pv 1) pa_nil)) pe_int (nomark _)) (pe_op op_cat (pe_slice sl_list (pv 1) po_none (po_some (pv 2))) (pe_slice sl_list (pv 1) (po_some (pe_op op_add (pv 2) pe_int)) po_none)) (pv 1)))) pss_nil)
      (pss_cons (ps_if (pt_cmpR op_eq (pv 3) pe_int (nomark _)) (pss_one (ps_ret (pe_op op_cat (pe_op op_cat (pe_slice sl_list (pv 1) po_none (po_some (pv 2))) (pe_lst (pa_cons (pe_call G_pick (hr.mono (by decide)) rfl T.pen.D__law_pick.g T.pen.D__law_pick.F.kp T.pen.D__law_pick.b .nil pass0 (pa_cons (pv 0) (pa_cons (pe_lst (pa_cons pe_str (pa_cons pe_str (pa_cons pe_str (pa_cons pe_str (pa_cons pe_str pa_nil)))))) pa_nil))) pa_nil))) (pe_slice sl_list (pv 1) (po_some (pv 2)) po_none)))) pss_nil)
      (C8.pss_cut (ps_if (pt_cmpR op_eq (pv 3) pe_int (nomark _)) (pss_one (ps_set (i := 4) sc.nd rfl (Or.inl rfl) (pe_op op_cat (pe_slice sl_list (pv 4) po_none (po_some (pv 5))) (pe_slice sl_list (pv 4) (po_some (pe_op op_add (pv 5) pe_int)) po_none)))) (pss_one (ps_if (pt_cmpR op_eq (pv 3) pe_int (nomark _)) (pss_one (ps_set (i := 4) sc.nd rfl (Or.inl rfl) (pe_op op_cat (pe_op op_cat (pe_slice sl_list (pv 4) po_none (po_some (pv 5))) (pe_lst (pa_cons (pe_call G_pick (hr.mono (by decide)) rfl T.pen.D__law_pick.g T.pen.D__law_pick.F.kp T.pen.D__law_pick.b .nil pass0 (pa_cons (pv 0) (pa_cons (pv 6) pa_nil))) pa_nil))) (pe_slice sl_list (pv 4) (po_some (pe_op op_add (pv 5) pe_int)) po_none)))) (pss_one (ps_if (pt_cmpR op_eq (pv 3) pe_int (nomark _)) (pss_one (ps_set (i := 4) sc.nd rfl (Or.inl rfl) (pe_op op_cat (pe_op op_cat (pe_slice sl_list (pv 4) po_none (po_some (pv 5))) (pe_slice sl_list (pv 4) (po_some (pv 5)) (po_some (pe_op op_add (pv 5) pe_int)))) (pe_slice sl_list (pv 4) (po_some (pv 5)) po_none)))) (pss_one (ps_if (pt_cmpR op_eq (pv 3) pe_int (nomark _)) (pss_one (ps_set (i := 4) sc.nd rfl (Or.inl rfl) (pe_op op_cat (pe_op op_cat (pe_slice sl_list (pv 4) po_none (po_some (pv 5))) (pe_lst (pa_cons (pe_call G_pick (hr.mono (by decide)) rfl T.pen.D__law_pick.g T.pen.D__law_pick.F.kp T.pen.D__law_pick.b .nil pass0 (pa_cons (pv 0) (pa_cons (pv 6) pa_nil))) pa_nil))) (pe_slice sl_list (pv 4) (po_some (pv 5)) po_none)))) (pss_one (ps_ret (pe_op op_cat (pe_op op_cat (pe_slice sl_list (pv 1) po_none (po_some (pv 2))) (pe_slice sl_list (pv 1) (po_some (pv 2)) (po_some (pe_op op_add (pv 2) pe_int)))) (pe_slice sl_list (pv 1) (po_some (pv 2)) po_none)))))))))))
      (pss_one (ps_ret (pe_op op_cat (pe_op op_cat (pe_slice sl_list (pv 1) po_none (po_some (pv 2))) (pe_lst (pa_cons (pe_join pe_str (pv 4)) pa_nil))) (pe_slice sl_list (pv 1) (po_some (pe_op op_add (pv 2) pe_int)) po_none)))))))))))), ?_⟩
    refine ⟨_, rfl, _, rfl, .ref q, ls.length, rfl, .inl ⟨_, SqL.of hq, by rw [List.length_map]⟩, p, c, _, n, rfl, hp, by omega, by omega, by omega, fun a H1 a0 a1 hp1 sb1 => ?_⟩
    obtain ⟨a, rfl⟩ := Int.eq_ofNat_of_zero_le a0
    refine ⟨_, rfl, p, c, 7, _, rfl, hp1, by omega, by decide, by decide, fun s H2 s0 s1 hp2 sb2 => ?_⟩
    obtain ⟨s, rfl⟩ := Int.eq_ofNat_of_zero_le s0
    refine ⟨_, _, rfl, ?_⟩
    have al : a < ls.length := by omega
    have hq2 := sb2 _ _ (sb1 _ _ hq (hp.ne hq)) (hp1.ne (sb1 _ _ hq (hp.ne hq)))
    obtain ⟨l, hl⟩ : ∃ l, ls[a]? = some l := ⟨_, List.getElem?_eq_getElem al⟩
    have hx : (ls.map V.str)[a]? = some (V.str l) := by rw [List.getElem?_map, hl]; rfl
    have Lq := hln l (List.mem_of_getElem? hl)
    obtain ⟨zp, zne, zk⟩ := Lq.pieces
    have lz : l.cps.size ≤ 10000 := by
      have P : Parts l (Txt.split l " ") := split_facts (s := 32) rfl (by decide +kernel)
      have h := sum_le 31 ((Txt.split l " ").map fun p => p.length + 1) fun x hx => by
        obtain ⟨p, hp, rfl⟩ := List.mem_map.mp hx
        have := (zp p hp).1
        omega
      rw [P.sum, List.length_map] at h
      have e : l.length = l.cps.size := rfl
      omega
    -- words
    refine ⟨_, rfl, _, rfl, q, _, _, _, rfl, rfl, SqL.of hq2, atI_nat hx, ⟨_, rfl⟩, l, " ", rfl, rfl, by decide, by show l.cps.size + 2 ≤ _; rw [sizeLine_eq]; omega, fun W hW => ?_⟩
    generalize Txt.split l " " = zs at zp zne zk ⊢
    have zpos : 1 ≤ zs.length := by
      cases zs with
      | nil => exact absurd rfl zne
      | cons _ _ => exact Nat.succ_pos _
    have sW := Same.upd (o := .lst (zs.map V.str)) hW
    have hW3 : (upd H2 W (.lst (zs.map V.str))) W = some (.lst (zs.map V.str)) := upd_same
    have hp3 := hp2.keep sW
    have hq3 := sW _ _ hq2
    have sb3 : SameBut p H (upd H2 W (.lst (zs.map V.str))) := (sb1.trans sb2).trans (.of sW)
    generalize upd H2 W (.lst (zs.map V.str)) = H3 at hW3 hp3 hq3 sb3 ⊢
    refine ⟨_, rfl, _, rfl, .ref W, zs.length, rfl, .inl ⟨_, SqL.of hW3, by rw [List.length_map]⟩, p, c, _, _, rfl, hp3, by omega, by omega, by omega, fun t H4 t0 t1 hp4 sb4 => ?_⟩
    obtain ⟨t, rfl⟩ := Int.eq_ofNat_of_zero_le t0
    have tl : t < zs.length := by omega
    -- odd
    refine ⟨by show 15 ≤ sizeLine; decide, fun O1 hO1 => ?_⟩
    refine ⟨_, rfl, by show 9 ≤ sizeLine; decide, fun O2 hO2 => ⟨O1, O2, ([.str "|", .str "signs", .str "0", .str "1", .str "00", .str "0+", .str "0+x+x", .str "0+x+y", .str "15", .str "16", .str "-1", .str "+x", .str "x", .str "abcdefghijklm", .str "ab"] : List V), ([.str "A", .str "a\tb", .str "aa", .str "abcd", .str "abcde", .str "1_0", .str "0+X", .str "01", .str "0+a+b+c+d+e+f+g+h+i+j+k+l+m"] : List V), rfl, rfl, Same.upd hO2 _ _ upd_same, upd_same, by show 15 + 9 ≤ sizeLine; decide, fun O3 hO3 => ?_⟩⟩
    have sO : Same H4 (upd (upd (upd H4 O1 (.lst (([.str "|", .str "signs", .str "0", .str "1", .str "00", .str "0+", .str "0+x+x", .str "0+x+y", .str "15", .str "16", .str "-1", .str "+x", .str "x", .str "abcdefghijklm", .str "ab"] : List V)))) O2 (.lst (([.str "A", .str "a\tb", .str "aa", .str "abcd", .str "abcde", .str "1_0", .str "0+X", .str "01", .str "0+a+b+c+d+e+f+g+h+i+j+k+l+m"] : List V)))) O3 (.lst (([.str "|", .str "signs", .str "0", .str "1", .str "00", .str "0+", .str "0+x+x", .str "0+x+y", .str "15", .str "16", .str "-1", .str "+x", .str "x", .str "abcdefghijklm", .str "ab"] : List V) ++ ([.str "A", .str "a\tb", .str "aa", .str "abcd", .str "abcde", .str "1_0", .str "0+X", .str "01", .str "0+a+b+c+d+e+f+g+h+i+j+k+l+m"] : List V)))) := fun b o y => Same.upd hO3 _ _ (Same.upd hO2 _ _ (Same.upd hO1 _ _ y))
    have hO7 : (upd (upd (upd H4 O1 (.lst (([.str "|", .str "signs", .str "0", .str "1", .str "00", .str "0+", .str "0+x+x", .str "0+x+y", .str "15", .str "16", .str "-1", .str "+x", .str "x", .str "abcdefghijklm", .str "ab"] : List V)))) O2 (.lst (([.str "A", .str "a\tb", .str "aa", .str "abcd", .str "abcde", .str "1_0", .str "0+X", .str "01", .str "0+a+b+c+d+e+f+g+h+i+j+k+l+m"] : List V)))) O3 (.lst (([.str "|", .str "signs", .str "0", .str "1", .str "00", .str "0+", .str "0+x+x", .str "0+x+y", .str "15", .str "16", .str "-1", .str "+x", .str "x", .str "abcdefghijklm", .str "ab"] : List V) ++ ([.str "A", .str "a\tb", .str "aa", .str "abcd", .str "abcde", .str "1_0", .str "0+X", .str "01", .str "0+a+b+c+d+e+f+g+h+i+j+k+l+m"] : List V)))) O3 = some (.lst ((odd1 ++ odd2).map V.str)) := by
      rw [upd_same]; rfl
    have hp7 := hp4.keep sO
    have sb7 := (sb3.trans sb4).trans (.of sO)
    have hq7 := sO _ _ (sb4 _ _ hq3 (hp3.ne hq3))
    have hW7 := sO _ _ (sb4 _ _ hW3 (hp3.ne hW3))
    have ho := odd_pieces
    have ol : (odd1 ++ odd2).length = 24 := rfl
    generalize odd1 ++ odd2 = od at hO7 ho ol
    generalize upd (upd (upd H4 O1 (.lst (([.str "|", .str "signs", .str "0", .str "1", .str "00", .str "0+", .str "0+x+x", .str "0+x+y", .str "15", .str "16", .str "-1", .str "+x", .str "x", .str "abcdefghijklm", .str "ab"] : List V)))) O2 (.lst (([.str "A", .str "a\tb", .str "aa", .str "abcd", .str "abcde", .str "1_0", .str "0+X", .str "01", .str "0+a+b+c+d+e+f+g+h+i+j+k+l+m"] : List V)))) O3 (.lst (([.str "|", .str "signs", .str "0", .str "1", .str "00", .str "0+", .str "0+x+x", .str "0+x+y", .str "15", .str "16", .str "-1", .str "+x", .str "x", .str "abcdefghijklm", .str "ab"] : List V) ++ ([.str "A", .str "a\tb", .str "aa", .str "abcd", .str "abcde", .str "1_0", .str "0+X", .str "01", .str "0+a+b+c+d+e+f+g+h+i+j+k+l+m"] : List V))) = H7 at hO7 hp7 sb7 hq7 hW7 ⊢
    have hp8 : PenAt H7 p c (n + 3) := hp7
    clear hp7 sO hW3 hq3 hp3 sb3 hp4 sb4 hq2 hp2 sb2 hp1 sb1 hO1 hO2 hO3 hW
    have up : ∀ x ∈ ls, LnQ (k + 1) x := fun x hx => (hln x hx).mono (by omega)
    have szl : ∀ xs : List Str, xs.length ≤ 200 → xs.length ≤ sizeLine := fun xs h => by rw [sizeLine_eq]; omega
    -- sort == 0
    refine ⟨_, rfl, rfl, _, rfl, ?_⟩
    rw [show decide (V.int (s : Nat) = V.int 0) = decide (s = 0) from int_eq s 0]
    by_cases c0 : s = 0
    · refine ifT c0 ?_
      refine ⟨_, rfl, .ref q, ls.length, rfl, .inl ⟨_, SqL.of hq7, by rw [List.length_map]⟩, _, _, rfl, rfl, _, rfl, ?_⟩
      by_cases c1 : 1 < ls.length
      · rw [decide_eq_true (by omega : (1 : Int) < (ls.length : Int))]
        refine iteT ⟨_, rfl, _, rfl, _, rfl, q, _, rfl, SqL.of hq7, fun A hA => ?_⟩
        rw [cut_words]
        refine ⟨_, rfl, _, rfl, _, _, rfl, rfl, _, rfl, q, _, rfl, SqL.of (Same.upd hA _ _ hq7), fun B hB => ?_⟩
        rw [cut_next _ _ al]
        refine ⟨A, B, _, _, rfl, rfl, Same.upd hB _ _ upd_same, upd_same, ?_, fun C hC => ?_⟩
        · rw [List.length_map, List.length_map, List.length_take, List.length_drop, sizeLine_eq]
          omega
        refine fin C (ls.take a ++ ls.drop (a + 1)) _ (by rw [upd_same, List.map_append]) ?_ ?_ (fun x hx => up x ?_) (((hp8.keep (Same.upd hA)).keep (Same.upd hB)).keep (Same.upd hC) |>.mono (by omega)) (((sb7.trans (.new hA)).trans (.new hB)).trans (.new hC))
        · rw [List.length_append, List.length_take, List.length_drop]; omega
        · rw [List.length_append, List.length_take, List.length_drop]; omega
        · rcases List.mem_append.mp hx with hx | hx
          · exact List.mem_of_mem_take hx
          · exact List.mem_of_mem_drop hx
      · rw [decide_eq_false (by omega : ¬ (1 : Int) < (ls.length : Int))]
        refine iteF ⟨_, rfl, ?_⟩
        exact fin q ls H7 hq7 l1 (by omega) up (hp8.mono (by omega)) sb7
    refine ifF c0 ?_
    -- sort == 1
    refine ⟨_, rfl, rfl, _, rfl, ?_⟩
    rw [show decide (V.int (s : Nat) = V.int 1) = decide (s = 1) from int_eq s 1]
    by_cases c1 : s = 1
    · refine ifT c1 ⟨_, rfl, _, rfl, _, rfl, q, _, rfl, SqL.of hq7, fun A hA => ?_⟩
      rw [cut_words]
      refine ⟨_, rfl, by show 5 ≤ sizeLine; decide, fun N hN => ?_⟩
      refine ⟨p, c, N, newl.map V.str, _, rfl, (hp8.keep (Same.upd hA)).keep (Same.upd hN), by omega, upd_same, by decide, by decide, fun v iv H8 hv hp9 sb9 => ?_⟩
      rw [List.getElem?_map] at hv
      obtain ⟨nl, hnl, rfl⟩ := Option.map_eq_some_iff.mp hv
      have nlq := (new_lines nl (List.mem_of_getElem? hnl)).mono (show 3 ≤ k + 1 by omega)
      have sbA : SameBut p H7 H8 := ((SameBut.new hA).trans (.new hN)).trans sb9
      have hA8 := sb9 _ _ (Same.upd hN _ _ (upd_same (H := H7) (a := A) (o := .lst ((ls.take a).map V.str)))) ((hp8.keep (Same.upd (o := .lst ((ls.take a).map V.str)) hA)).ne upd_same)
      have hq8 := sbA _ _ hq7 (hp8.ne hq7)
      refine ⟨by show 1 ≤ sizeLine; decide, fun X hX => ⟨A, X, _, _, rfl, rfl, Same.upd hX _ _ hA8, upd_same, ?_, fun Y hY => ?_⟩⟩
      · rw [List.length_map, List.length_take, sizeLine_eq]
        show min a ls.length + 1 ≤ _
        omega
      refine ⟨_, rfl, _, rfl, _, rfl, q, _, rfl, SqL.of (Same.upd hY _ _ (Same.upd hX _ _ hq8)), fun B hB => ?_⟩
      rw [cut_after _ _ (by omega)]
      refine ⟨Y, B, _, _, rfl, rfl, Same.upd hB _ _ upd_same, upd_same, ?_, fun C hC => ?_⟩
      · rw [List.length_append, List.length_map, List.length_map, List.length_take, List.length_drop, sizeLine_eq]
        show min a ls.length + 1 + _ ≤ _
        omega
      refine fin C (ls.take a ++ [nl] ++ ls.drop a) _ (by rw [upd_same, List.map_append, List.map_append]; rfl) ?_ ?_ (fun x hx => ?_) ((((hp9.keep (Same.upd hX)).keep (Same.upd hY)).keep (Same.upd hB)).keep (Same.upd hC) |>.mono (by omega)) ((((sb7.trans sbA).trans (.new hX)).trans (.new hY)).trans (.new hB) |>.trans (.new hC))
      · rw [List.length_append, List.length_append]; simp; omega
      · rw [List.length_append, List.length_append, List.length_take, List.length_drop]; simp; omega
      · rcases List.mem_append.mp hx with hx | hx
        · rcases List.mem_append.mp hx with hx | hx
          · exact up x (List.mem_of_mem_take hx)
          · rw [List.mem_singleton.mp hx]
            exact nlq
        · exact up x (List.mem_of_mem_drop hx)
    refine ifF c1 ?_
    refine ⟨fun σ' H' => ∃ (W' : Addr) (zs' : List Str), σ' = [some (.ref p), some (.ref q), some (.int (a : Nat)), some (.int (s : Nat)), some (.ref W'), some (.int (t : Nat)), some (.ref O3)] ∧ H' W' = some (.lst (zs'.map V.str)) ∧ zs'.length ≤ k + 1 ∧ (∀ z ∈ zs', Piece z) ∧ PenAt H' p c (n + 4) ∧ SameBut p H7 H', ?_, ?_⟩
    · -- sort == 2
      refine ⟨_, rfl, rfl, _, rfl, ?_⟩
      rw [show decide (V.int (s : Nat) = V.int 2) = decide (s = 2) from int_eq s 2]
      by_cases c2 : s = 2
      · refine ifT c2 ⟨_, rfl, _, rfl, _, rfl, W, _, rfl, SqL.of hW7, fun A hA => ?_⟩
        rw [cut_words]
        refine ⟨_, rfl, _, rfl, _, _, rfl, rfl, _, rfl, W, _, rfl, SqL.of (Same.upd hA _ _ hW7), fun B hB => ?_⟩
        rw [cut_next _ _ tl]
        refine ⟨A, B, _, _, rfl, rfl, Same.upd hB _ _ upd_same, upd_same, ?_, fun C hC => ?_⟩
        · rw [List.length_map, List.length_map, List.length_take, List.length_drop, sizeLine_eq]
          omega
        refine ⟨C, zs.take t ++ zs.drop (t + 1), rfl, by rw [upd_same, List.map_append], ?_, fun x hx => zp x ?_, ((hp8.keep (Same.upd hA)).keep (Same.upd hB)).keep (Same.upd hC) |>.mono (by omega), ((SameBut.new hA).trans (.new hB)).trans (.new hC)⟩
        · rw [List.length_append, List.length_take, List.length_drop]; omega
        · rcases List.mem_append.mp hx with hx | hx
          · exact List.mem_of_mem_take hx
          · exact List.mem_of_mem_drop hx
      refine ifF c2 ?_
      -- sort == 3
      refine ⟨_, rfl, rfl, _, rfl, ?_⟩
      rw [show decide (V.int (s : Nat) = V.int 3) = decide (s = 3) from int_eq s 3]
      by_cases c3 : s = 3
      · refine ifT c3 ⟨_, rfl, _, rfl, _, rfl, W, _, rfl, SqL.of hW7, fun A hA => ?_⟩
        rw [cut_words]
        refine ⟨_, rfl, _, rfl, p, c, O3, od.map V.str, _, rfl, hp8.keep (Same.upd hA), by omega, Same.upd hA _ _ hO7, by rw [List.length_map, ol]; decide, by rw [List.length_map, ol]; decide, fun v iv H8 hv hp9 sb9 => ?_⟩
        rw [List.getElem?_map] at hv
        obtain ⟨nl, hnl, rfl⟩ := Option.map_eq_some_iff.mp hv
        have nlq := ho nl (List.mem_of_getElem? hnl)
        have sbA : SameBut p H7 H8 := (SameBut.new hA).trans sb9
        have hA8 := sb9 _ _ (upd_same (H := H7) (a := A) (o := .lst ((zs.take t).map V.str))) ((hp8.keep (Same.upd (o := .lst ((zs.take t).map V.str)) hA)).ne upd_same)
        have hW8 := sbA _ _ hW7 (hp8.ne hW7)
        refine ⟨by show 1 ≤ sizeLine; decide, fun X hX => ⟨A, X, _, _, rfl, rfl, Same.upd hX _ _ hA8, upd_same, ?_, fun Y hY => ?_⟩⟩
        · rw [List.length_map, List.length_take, sizeLine_eq]
          show min t zs.length + 1 ≤ _
          omega
        refine ⟨_, rfl, _, rfl, _, _, rfl, rfl, _, rfl, W, _, rfl, SqL.of (Same.upd hY _ _ (Same.upd hX _ _ hW8)), fun B hB => ?_⟩
        rw [cut_next _ _ tl]
        refine ⟨Y, B, _, _, rfl, rfl, Same.upd hB _ _ upd_same, upd_same, ?_, fun C hC => ?_⟩
        · rw [List.length_append, List.length_map, List.length_map, List.length_take, List.length_drop, sizeLine_eq]
          show min t zs.length + 1 + _ ≤ _
          omega
        refine ⟨C, zs.take t ++ [nl] ++ zs.drop (t + 1), rfl, by rw [upd_same, List.map_append, List.map_append]; rfl, ?_, fun x hx => ?_, (((hp9.keep (Same.upd hX)).keep (Same.upd hY)).keep (Same.upd hB)).keep (Same.upd hC) |>.mono (by omega), (((sbA.trans (.new hX)).trans (.new hY)).trans (.new hB)).trans (.new hC)⟩
        · rw [List.length_append, List.length_append, List.length_take, List.length_drop]; simp; omega
        · rcases List.mem_append.mp hx with hx | hx
          · rcases List.mem_append.mp hx with hx | hx
            · exact zp x (List.mem_of_mem_take hx)
            · rw [List.mem_singleton.mp hx]
              exact nlq
          · exact zp x (List.mem_of_mem_drop hx)
      refine ifF c3 ?_
      -- sort == 4
      refine ⟨_, rfl, rfl, _, rfl, ?_⟩
      rw [show decide (V.int (s : Nat) = V.int 4) = decide (s = 4) from int_eq s 4]
      by_cases c4 : s = 4
      · refine ifT c4 ⟨_, rfl, _, rfl, _, rfl, W, _, rfl, SqL.of hW7, fun A hA => ?_⟩
        rw [cut_words]
        refine ⟨_, rfl, _, rfl, _, rfl, _, rfl, _, _, rfl, rfl, _, rfl, W, _, rfl, SqL.of (Same.upd hA _ _ hW7), fun X hX => ?_⟩
        rw [cut_one _ _ tl]
        refine ⟨A, X, _, _, rfl, rfl, Same.upd hX _ _ upd_same, upd_same, ?_, fun Y hY => ?_⟩
        · rw [List.length_map, List.length_map, List.length_take, List.length_take, List.length_drop, sizeLine_eq]
          omega
        refine ⟨_, rfl, _, rfl, _, rfl, W, _, rfl, SqL.of (Same.upd hY _ _ (Same.upd hX _ _ (Same.upd hA _ _ hW7))), fun B hB => ?_⟩
        rw [cut_after _ _ (by omega)]
        refine ⟨Y, B, _, _, rfl, rfl, Same.upd hB _ _ upd_same, upd_same, ?_, fun C hC => ?_⟩
        · rw [List.length_append, List.length_map, List.length_map, List.length_map, List.length_take, List.length_take, List.length_drop, sizeLine_eq]
          omega
        refine ⟨C, zs.take t ++ (zs.drop t).take 1 ++ zs.drop t, rfl, by rw [upd_same, List.map_append, List.map_append], ?_, fun x hx => zp x ?_, (((hp8.keep (Same.upd hA)).keep (Same.upd hX)).keep (Same.upd hY)).keep (Same.upd hB) |>.keep (Same.upd hC) |>.mono (by omega), ((((SameBut.new hA).trans (.new hX)).trans (.new hY)).trans (.new hB)).trans (.new hC)⟩
        · rw [List.length_append, List.length_append, List.length_take, List.length_take, List.length_drop]; omega
        · rcases List.mem_append.mp hx with hx | hx
          · rcases List.mem_append.mp hx with hx | hx
            · exact List.mem_of_mem_take hx
            · exact List.mem_of_mem_drop (List.mem_of_mem_take hx)
          · exact List.mem_of_mem_drop hx
      refine ifF c4 ?_
      -- sort == 5
      refine ⟨_, rfl, rfl, _, rfl, ?_⟩
      rw [show decide (V.int (s : Nat) = V.int 5) = decide (s = 5) from int_eq s 5]
      by_cases c5 : s = 5
      · refine ifT c5 ⟨_, rfl, _, rfl, _, rfl, W, _, rfl, SqL.of hW7, fun A hA => ?_⟩
        rw [cut_words]
        refine ⟨_, rfl, _, rfl, p, c, O3, od.map V.str, _, rfl, hp8.keep (Same.upd hA), by omega, Same.upd hA _ _ hO7, by rw [List.length_map, ol]; decide, by rw [List.length_map, ol]; decide, fun v iv H8 hv hp9 sb9 => ?_⟩
        rw [List.getElem?_map] at hv
        obtain ⟨nl, hnl, rfl⟩ := Option.map_eq_some_iff.mp hv
        have nlq := ho nl (List.mem_of_getElem? hnl)
        have sbA : SameBut p H7 H8 := (SameBut.new hA).trans sb9
        have hA8 := sb9 _ _ (upd_same (H := H7) (a := A) (o := .lst ((zs.take t).map V.str))) ((hp8.keep (Same.upd (o := .lst ((zs.take t).map V.str)) hA)).ne upd_same)
        have hW8 := sbA _ _ hW7 (hp8.ne hW7)
        refine ⟨by show 1 ≤ sizeLine; decide, fun X hX => ⟨A, X, _, _, rfl, rfl, Same.upd hX _ _ hA8, upd_same, ?_, fun Y hY => ?_⟩⟩
        · rw [List.length_map, List.length_take, sizeLine_eq]
          show min t zs.length + 1 ≤ _
          omega
        refine ⟨_, rfl, _, rfl, _, rfl, W, _, rfl, SqL.of (Same.upd hY _ _ (Same.upd hX _ _ hW8)), fun B hB => ?_⟩
        rw [cut_after _ _ (by omega)]
        refine ⟨Y, B, _, _, rfl, rfl, Same.upd hB _ _ upd_same, upd_same, ?_, fun C hC => ?_⟩
        · rw [List.length_append, List.length_map, List.length_map, List.length_take, List.length_drop, sizeLine_eq]
          show min t zs.length + 1 + _ ≤ _
          omega
        refine ⟨C, zs.take t ++ [nl] ++ zs.drop t, rfl, by rw [upd_same, List.map_append, List.map_append]; rfl, ?_, fun x hx => ?_, (((hp9.keep (Same.upd hX)).keep (Same.upd hY)).keep (Same.upd hB)).keep (Same.upd hC) |>.mono (by omega), (((sbA.trans (.new hX)).trans (.new hY)).trans (.new hB)).trans (.new hC)⟩
        · rw [List.length_append, List.length_append, List.length_take, List.length_drop]; simp; omega
        · rcases List.mem_append.mp hx with hx | hx
          · rcases List.mem_append.mp hx with hx | hx
            · exact zp x (List.mem_of_mem_take hx)
            · rw [List.mem_singleton.mp hx]
              exact nlq
          · exact zp x (List.mem_of_mem_drop hx)
      refine ifF c5 ⟨_, rfl, _, rfl, _, rfl, q, _, rfl, SqL.of hq7, fun A hA => ?_⟩
      rw [cut_words]
      refine ⟨_, rfl, _, rfl, _, rfl, _, rfl, _, _, rfl, rfl, _, rfl, q, _, rfl, SqL.of (Same.upd hA _ _ hq7), fun X hX => ?_⟩
      rw [cut_one _ _ al]
      refine ⟨A, X, _, _, rfl, rfl, Same.upd hX _ _ upd_same, upd_same, ?_, fun Y hY => ?_⟩
      · rw [List.length_map, List.length_map, List.length_take, List.length_take, List.length_drop, sizeLine_eq]
        omega
      refine ⟨_, rfl, _, rfl, _, rfl, q, _, rfl, SqL.of (Same.upd hY _ _ (Same.upd hX _ _ (Same.upd hA _ _ hq7))), fun B hB => ?_⟩
      rw [cut_after _ _ (by omega)]
      refine ⟨Y, B, _, _, rfl, rfl, Same.upd hB _ _ upd_same, upd_same, ?_, fun C hC => ?_⟩
      · rw [List.length_append, List.length_map, List.length_map, List.length_map, List.length_take, List.length_take, List.length_drop, sizeLine_eq]
        omega
      refine fin C (ls.take a ++ (ls.drop a).take 1 ++ ls.drop a) _ (by rw [upd_same, List.map_append, List.map_append]) ?_ ?_ (fun x hx => up x ?_) ((((hp8.keep (Same.upd hA)).keep (Same.upd hX)).keep (Same.upd hY)).keep (Same.upd hB) |>.keep (Same.upd hC) |>.mono (by omega)) (((((sb7.trans (.new hA)).trans (.new hX)).trans (.new hY)).trans (.new hB)).trans (.new hC))
      · rw [List.length_append, List.length_append, List.length_take, List.length_take, List.length_drop]; omega
      · rw [List.length_append, List.length_append, List.length_take, List.length_take, List.length_drop]; omega
      · rcases List.mem_append.mp hx with hx | hx
        · rcases List.mem_append.mp hx with hx | hx
          · exact List.mem_of_mem_take hx
          · exact List.mem_of_mem_drop (List.mem_of_mem_take hx)
        · exact List.mem_of_mem_drop hx
    · rintro σ' H8 ⟨W', zs', rfl, hW8, wk, wp, hp9, sb8⟩
      have hq8 := sb8 _ _ hq7 (hp8.ne hq7)
      have lq := lnq_join wp wk (by omega)
      have tot : (zs'.map (·.length)).sum + zs'.length * (" " : Str).length ≤ 100000 := by
        have := sum_le 30 (zs'.map (·.length)) fun x hx => by
          obtain ⟨y, hy, rfl⟩ := List.mem_map.mp hx
          exact (wp y hy).1
        rw [List.length_map] at this
        have e1 : (" " : Str).length = 1 := rfl
        rw [e1]
        omega
      refine ⟨_, rfl, _, rfl, _, rfl, q, _, rfl, SqL.of hq8, fun A hA => ?_⟩
      rw [cut_words]
      refine ⟨⟨_, rfl⟩, _, rfl, " ", W', zs', rfl, rfl, .inl (SqL.of (Same.upd hA _ _ hW8)), Nat.le_trans tot (by decide), ?_⟩
      refine ⟨by show 1 ≤ sizeLine; decide, fun X hX => ⟨A, X, _, _, rfl, rfl, Same.upd hX _ _ upd_same, upd_same, ?_, fun Y hY => ?_⟩⟩
      · rw [List.length_map, List.length_take, sizeLine_eq]
        show min a ls.length + 1 ≤ _
        omega
      refine ⟨_, rfl, _, rfl, _, _, rfl, rfl, _, rfl, q, _, rfl, SqL.of (Same.upd hY _ _ (Same.upd hX _ _ (Same.upd hA _ _ hq8))), fun B hB => ?_⟩
      rw [cut_next _ _ al]
      refine ⟨Y, B, _, _, rfl, rfl, Same.upd hB _ _ upd_same, upd_same, ?_, fun C hC => ?_⟩
      · rw [List.length_append, List.length_map, List.length_map, List.length_take, List.length_drop, sizeLine_eq]
        show min a ls.length + 1 + _ ≤ _
        omega
      refine fin C (ls.take a ++ [Txt.join " " zs'] ++ ls.drop (a + 1)) _ (by rw [upd_same, List.map_append, List.map_append]; rfl) ?_ ?_ (fun x hx => ?_) ((((hp9.keep (Same.upd hA)).keep (Same.upd hX)).keep (Same.upd hY)).keep (Same.upd hB) |>.keep (Same.upd hC) |>.mono (by omega)) ((((((sb7.trans sb8).trans (.new hA)).trans (.new hX)).trans (.new hY)).trans (.new hB)).trans (.new hC))
      · rw [List.length_append, List.length_append]; simp; omega
      · rw [List.length_append, List.length_append, List.length_take, List.length_drop]; simp; omega
      · rcases List.mem_append.mp hx with hx | hx
        · rcases List.mem_append.mp hx with hx | hx
          · exact up x (List.mem_of_mem_take hx)
          · rw [List.mem_singleton.mp hx]
            exact lq
        · exact up x (List.mem_of_mem_drop hx)
end
end Kx

namespace Kx
open PySem L2 Own
/-! ### the lines of a made machine -/
theorem klet_codes : ∀ c ∈ kLet.cps.toList, 48 ≤ c ∧ c ≤ 122 := by decide +kernel
theorem key_codes {y : Str} (h : keyOk y = true) : TL.tl y ≠ [] ∧ y.length ≤ 12 ∧ ∀ c ∈ TL.tl y, 48 ≤ c ∧ c ≤ 122 := by
  unfold keyOk at h
  rw [Bool.and_eq_true, Bool.and_eq_true, List.all_eq_true] at h
  obtain ⟨⟨h1, h2⟩, h3⟩ := h
  have h1 : ¬ y.cps.size < 1 := by simpa using h1
  have h2 : ¬ 12 < y.cps.size := by simpa using h2
  refine ⟨fun e => h1 ?_, by show y.cps.size ≤ 12; omega, fun c hc => klet_codes c (of_decide_eq_true (h3 c hc))⟩
  have : y.cps.toList.length = 0 := by show (TL.tl y).length = 0; rw [e]; rfl
  rw [Array.length_toList] at this
  omega
theorem num_codes (n : Nat) : TL.tl (numT n) ≠ [] ∧ ∀ c ∈ TL.tl (numT n), 48 ≤ c ∧ c ≤ 57 := by
  rw [TL.tl_num]
  refine ⟨TL.numL_ne n, fun c hc => ?_⟩
  by_cases h : c < 48 ∨ 57 < c
  · exact absurd hc (TL.numL_free h)
  · omega
theorem joinL_mem {S : List Nat} : ∀ {ps : List (List Nat)} {c : Nat}, c ∈ TL.joinL S ps → c ∈ S ∨ ∃ p ∈ ps, c ∈ p
  | [], _, h => nomatch h
  | [p], _, h => .inr ⟨p, List.mem_cons_self, h⟩
  | p :: q :: r, c, h => by
    rcases List.mem_append.mp h with h | h
    · exact .inr ⟨p, List.mem_cons_self, h⟩
    · rcases List.mem_append.mp h with h | h
      · exact .inl h
      · rcases joinL_mem h with h | ⟨u, hu, h⟩
        · exact .inl h
        · exact .inr ⟨u, List.mem_cons_of_mem _ hu, h⟩
theorem joinL_ne {S : List Nat} {p : List Nat} {ps : List (List Nat)} (h : p ≠ []) : TL.joinL S (p :: ps) ≠ [] := by
  cases ps with
  | nil => exact h
  | cons q r => exact fun e => h (List.append_eq_nil_iff.mp e).1
theorem join_tl (y : Str) (ps : List Str) : TL.tl (Txt.join y ps) = TL.joinL (TL.tl y) (ps.map TL.tl) := by rw [TL.join_eq, TL.tl_join]
def WayW (w : Way) : Prop := 0 ≤ w.1 ∧ ∀ y ∈ w.2, keyOk y = true
theorem way_codes {w : Way} (h : WayW w) : TL.tl (wayTx w) ≠ [] ∧ ∀ c ∈ TL.tl (wayTx w), 43 ≤ c ∧ c ≤ 122 := by
  obtain ⟨n, hn⟩ := Int.eq_ofNat_of_zero_le h.1
  have e : TL.tl (wayTx w) = TL.joinL [43] (TL.tl (numT n) :: w.2.map TL.tl) := by
    unfold wayTx
    rw [join_tl, hn]
    rfl
  rw [e]
  refine ⟨joinL_ne (num_codes n).1, fun c hc => ?_⟩
  rcases joinL_mem hc with hc | ⟨p, hp, hc⟩
  · rw [List.mem_singleton.mp hc]
    decide
  · rcases List.mem_cons.mp hp with rfl | hp
    · have := (num_codes n).2 c hc
      omega
    · obtain ⟨y, hy, rfl⟩ := List.mem_map.mp hp
      have := (key_codes (h.2 y hy)).2.2 c hc
      omega
theorem keys_all {ks : List Str} (h : keysOk ks = true) : ∀ y ∈ ks, keyOk y = true := by
  unfold keysOk at h
  rw [Bool.and_eq_true, List.all_eq_true] at h
  exact h.2
theorem alpha_codes : ∀ c ∈ alpha, 97 ≤ c ∧ c ≤ 122 ∧ c ∈ aLet.cps.toList := by decide +kernel
theorem head_join (sg : Str) : headTx sg = Txt.join " " [("signs" : Str), sg] := by
  refine TL.ext_tl ?_
  rw [join_tl]
  unfold headTx
  rw [TL.tl_append, TL.tl_append]
  show ([] ++ _) ++ _ = _ ++ ([32] ++ _)
  rw [List.nil_append, ← List.append_assoc]
  rfl
theorem five_k : ∀ y ∈ (["x", "key1", "0", "abcdefghij12", "y"] : List Str), keyOk y = true ∧ PyData.strOk y = true ∧ y.length ≤ 12 := by decide +kernel
def wordsTx (q : List Way) (e : List Str) : List Str := q.map wayTx ++ (("|" : Str) :: e)
theorem low_ok : ∀ c : Nat, c < 128 → PyData.strOk (Froz.sing c) = true := by decide +kernel
theorem ok_low {z : Str} (h : ∀ c ∈ TL.tl z, c < 128) : PyData.strOk z = true := by
  unfold PyData.strOk
  rw [← Array.all_toList, List.all_eq_true]
  intro c hc
  have h1 := low_ok c (h c hc)
  unfold PyData.strOk at h1
  rw [← Array.all_toList, List.all_eq_true] at h1
  exact h1 c List.mem_cons_self
theorem piece_of {z : Str} (l : z.length ≤ 30) (h : ∀ c ∈ TL.tl z, 33 ≤ c ∧ c ≤ 122) : Piece z :=
  ⟨l, fun m => by have := h _ m; omega, fun m => by have := h _ m; omega, ok_low fun c hc => by have := h c hc; omega⟩
theorem num2 : ∀ n : Nat, n < 16 → (numT n).length ≤ 2 := by decide +kernel
theorem way_piece {w : Way} (h : WayW w) (l : w.1 < 16) (k2 : w.2.length ≤ 2) : Piece (wayTx w) := by
  obtain ⟨n, hn⟩ := Int.eq_ofNat_of_zero_le h.1
  have e : wayTx w = Txt.join "+" (numT n :: w.2) := by
    unfold wayTx
    rw [hn]
  refine piece_of ?_ fun c hc => by
    have h0 : 43 ≤ c ∧ c ≤ 122 := (way_codes h).2 c hc
    omega
  rw [e]
  refine Nat.le_trans (join_len _ _) ?_
  have a := num2 n (by omega)
  have b := sum_le 12 (w.2.map (·.length)) fun x hx => by
    obtain ⟨y, hy, rfl⟩ := List.mem_map.mp hx
    exact (key_codes (h.2 y hy)).2.1
  have e1 : ("+" : Str).length = 1 := rfl
  rw [List.length_map] at b
  rw [List.map_cons, List.sum_cons, List.length_cons, e1]
  omega
theorem key_piece {y : Str} (h : keyOk y = true) : Piece y := piece_of (Nat.le_trans (key_codes h).2.1 (by decide)) fun c hc => by
  have := (key_codes h).2.2 c hc
  omega
theorem signs_piece : Piece "signs" := piece_of (by decide) (by decide +kernel)
theorem bar_free : 32 ∉ TL.tl ("|" : Str) ∧ 10 ∉ TL.tl ("|" : Str) ∧ PyData.strOk "|" = true ∧ ("|" : Str).length ≤ 30 := by decide +kernel
theorem bar_piece : Piece "|" := ⟨bar_free.2.2.2, bar_free.1, bar_free.2.1, bar_free.2.2.1⟩
theorem std_lines {sg : Str} {R : List (List Way)} {Es : List (List Str)} (z4 : sg.cps.size ≤ 4) (al : ∀ c ∈ sg.cps.toList, c ∈ alpha)
    (row : ∀ q ∈ R, q.length ≤ 4 ∧ ∀ w ∈ q, WayW w ∧ w.1 < 16 ∧ w.2.length ≤ 2) (ends : ∀ ks ∈ Es, ks.length ≤ 2 ∧ ∀ y ∈ ks, keyOk y = true) : ∀ l ∈ linesTx sg R Es, LnQ 7 l := fun l hl => by
  rcases List.mem_cons.mp hl with rfl | hl
  · rw [head_join]
    refine lnq_join (fun z hz => ?_) (by show 2 ≤ 7; decide) (by decide)
    rcases List.mem_cons.mp hz with rfl | hz
    · exact signs_piece
    · rw [List.mem_singleton.mp hz]
      refine piece_of (by show sg.cps.size ≤ 30; omega) fun c hc => ?_
      have := alpha_codes c (al c hc)
      omega
  · obtain ⟨q, hq, e, he, rfl⟩ := mem_zipWith hl
    refine lnq_join (zs := q.map wayTx ++ (("|" : Str) :: e)) (fun z hz => ?_) ?_ (by decide)
    · rcases List.mem_append.mp hz with hz | hz
      · obtain ⟨w, hw, rfl⟩ := List.mem_map.mp hz
        obtain ⟨h1, h2, h3⟩ := (row q hq).2 w hw
        exact way_piece h1 h2 h3
      · rcases List.mem_cons.mp hz with rfl | hz
        · exact bar_piece
        · exact key_piece ((ends e he).2 z hz)
    · rw [List.length_append, List.length_map, List.length_cons]
      have := (row q hq).1
      have := (ends e he).1
      omega
theorem std_split {sg : Str} {R : List (List Way)} {Es : List (List Str)} (h : ∀ l ∈ linesTx sg R Es, LnQ 7 l) : Txt.split (machTx sg R Es) "\n" = linesTx sg R Es :=
  TL.split_join (y := "\n") (s := 10) (S := []) rfl (by decide +kernel) (parts := linesTx sg R Es) (by unfold linesTx; simp) fun p hp => (h p hp).free
theorem std_len {sg : Str} {R : List (List Way)} {Es : List (List Str)} (e : Es.length = R.length) : (linesTx sg R Es).length = 1 + R.length := by
  unfold linesTx
  rw [List.length_cons, List.length_zipWith, e, Nat.min_self, Nat.add_comm]
/-! ### what is told is laid out -/
theorem sh_line (n : Nat) : Sh 5 (lineD n) := Sh.tup (n := 4) fun x hx => by
  simp only [List.mem_cons, List.not_mem_nil, or_false] at hx
  rcases hx with rfl | rfl
  · exact Sh.str (by decide +kernel)
  · exact Sh.int _
theorem good_keys {many m : Nat} {y : Str} {ws : List Way} {e : List Str} (h : GoodL many m y ws e) : (∀ w ∈ ws, ∀ k ∈ w.2, keyOk k = true) ∧ ∀ k ∈ e, keyOk k = true := by
  obtain ⟨zs, _, _, pk, ke⟩ := h
  exact ⟨fun w hw => by
    obtain ⟨z, _, i, _, tw⟩ := paired_right pk w hw
    exact keys_all tw.2.2, keys_all ke⟩
theorem sh_told {l0 : Str} {ls : List Str} {D : PyData} (h : Told l0 ls D) : Sh 5 D := by
  rcases h with ⟨n, _, rfl⟩ | ⟨sg, rs, h1, h2, h3, h4, rfl⟩
  · exact sh_line n
  · unfold tabD
    split
    · refine Sh.tup (n := 4) fun x hx => ?_
      simp only [List.mem_cons, List.not_mem_nil, or_false] at hx
      rcases hx with rfl | rfl
      · exact Sh.str (by decide +kernel)
      · exact Sh.str (by decide +kernel)
    · refine Sh.tup (n := 4) fun x hx => ?_
      simp only [List.mem_cons, List.not_mem_nil, or_false] at hx
      rcases hx with rfl | rfl | rfl
      · refine Sh.str (ok_low fun c hc => ?_)
        have h := signsOk_asc (signsOf_ok h1).1
        rw [← Array.all_toList, List.all_eq_true] at h
        exact of_decide_eq_true (h c hc)
      · refine sh_rows fun y hy => ?_
        rw [mem_nrm] at hy
        obtain ⟨q, hq, hy2⟩ := List.mem_flatMap.mp hy
        obtain ⟨w, hw, hy3⟩ := List.mem_flatMap.mp hy2
        obtain ⟨x, hx, rfl⟩ := List.mem_map.mp hq
        obtain ⟨l, _, g⟩ := paired_right h4 x hx
        exact (key_piece ((good_keys g).1 w hw y hy3)).2.2.2
      · refine (sh_ends fun y hy => ?_).up.up
        rw [mem_ends] at hy
        obtain ⟨ks, hk, hy2⟩ := List.mem_flatten.mp hy
        obtain ⟨x, hx, rfl⟩ := List.mem_map.mp hk
        obtain ⟨l, _, g⟩ := paired_right h4 x hx
        exact (key_piece ((good_keys g).2 y hy2)).2.2.2
/-! ### three texts -/
theorem sig_a : signsOf "signs a" = some "a" := by decide +kernel
theorem sig_none : signsOf "" = none := by decide +kernel
theorem zero_good (m : Nat) (h : 0 < m) : GoodL 1 m "0 |" [(0, [])] [] := ⟨["0"], by decide +kernel, rfl, .cons ⟨0, rfl, by decide +kernel, h, by decide +kernel⟩ .nil, by decide +kernel⟩
theorem const_lines : ∀ l ∈ (["signs a", "0 |", ""] : List Str), (Txt.split l " ").length ≤ 12 ∧ (∀ z ∈ Txt.split l " ", z.length ≤ 30) ∧ PyData.strOk l = true ∧ 10 ∉ TL.tl l := by decide +kernel
theorem const_lnf {l : Str} (h : l ∈ (["signs a", "0 |", ""] : List Str)) : LnF l := ⟨⟨(const_lines l h).1, (const_lines l h).2.1, (const_lines l h).2.2.1⟩, (const_lines l h).2.2.2⟩
theorem long_lnf {n : Nat} {l : Str} (h : l ∈ ("signs a" : Str) :: List.replicate n "0 |") : LnF l := by
  rcases List.mem_cons.mp h with rfl | h
  · exact const_lnf (by simp)
  · rw [(List.mem_replicate.mp h).2]
    exact const_lnf (by simp)
theorem long_told {D : PyData} (h : Told "signs a" (List.replicate 17 "0 |") D) : D = lineD 18 := by
  refine told_one h (.inl ⟨18, .inr ⟨"a", sig_a, .inr ⟨16, by decide, rfl, fun j hj => ⟨hj, "0 |", [(0, [])], [], ?_, zero_good _ (by decide)⟩, fun h => absurd h.1 (by decide)⟩⟩, rfl⟩)
  exact List.getElem?_replicate_of_lt (by omega)
theorem pk_rep {m : Nat} (h : 0 < m) : ∀ n : Nat, Paired (fun l (x : List Way × List Str) => GoodL 1 m l x.1 x.2) (List.replicate n ("0 |" : Str)) (List.replicate n (([(0, [])], []) : List Way × List Str))
  | 0 => .nil
  | n + 1 => .cons (zero_good m h) (pk_rep h n)
theorem long16_told {D : PyData} (h : Told "signs a" (List.replicate 16 "0 |") D) : ∃ r e, D = .tuple [.str "a", r, e] := by
  have g := told_one h (.inr ⟨"a", _, sig_a, by decide, by decide, pk_rep (by decide) 16, rfl⟩)
  rw [g]
  unfold tabD
  have e : (kl (keysOfRows ((List.replicate 16 (([(0, [])], []) : List Way × List Str)).map (·.1) |>.map nrm) ++ ((List.replicate 16 (([(0, [])], []) : List Way × List Str)).map (·.2) |>.map kl).flatten)).length = 0 := by decide +kernel
  rw [e]
  exact ⟨_, _, rfl⟩
theorem empty_told {D : PyData} (h : Told "" [] D) : D = lineD 1 := told_one h (.inl ⟨1, .inl ⟨sig_none, rfl⟩, rfl⟩)
/-! ### data stays -/
theorem same_tup {K : PySem.W.Frag} {H H' : Hp} {a : Addr} {xs : List V} (e : Same H H') (h : SqT K H a xs) : SqT K H' a xs := by
  rcases h with (h | ⟨o, h⟩) | h
  · exact .inl (.inl (e _ _ h))
  · exact .inl (.inr ⟨o, e _ _ h⟩)
  · exact .inr h
mutual
theorem Dp.keepS {K : PySem.W.Frag} {H H' : Hp} (e : Same H H') : ∀ (d : PyData) (v : V), Dp K H v d → Dp K H' v d
  | .none, _, h => by cases h; exact .non
  | .bool b, _, h => by cases h; exact .bl b
  | .int i, _, h => by cases h; exact .int i
  | .str x, _, h => by cases h; exact .str x
  | .list ds, _, h => by
    cases h with
    | lst s a => exact .lst (e.seq s) (Dp.keepAll e ds _ a)
  | .tuple ds, _, h => by
    cases h with
    | tup s a => exact .tup (same_tup e s) (Dp.keepAll e ds _ a)
  | .dict _, _, h => by cases h
theorem Dp.keepAll {K : PySem.W.Frag} {H H' : Hp} (e : Same H H') : ∀ (ds : List PyData) (vs : List V), DpAll K H vs ds → DpAll K H' vs ds
  | [], _, h => by cases h; exact .nil
  | d :: ds, _, h => by
    cases h with
    | cons a b => exact .cons (Dp.keepS e d _ a) (Dp.keepAll e ds _ b)
end
end Kx

namespace Kx
open PySem L2 Own
abbrev s_law : Stmt := top 43
structure DAd where
  f1 : Addr
  f2 : Addr
  f3 : Addr
  f4 : Addr
  f5 : Addr
  d1 : FuncData
  d2 : FuncData
  d3 : FuncData
  d4 : FuncData
  d5 : FuncData
  C : Addr
  I : Addr
  eb : FuncData
  fs : Addr
  ds : FuncData
  fr : Addr
  dr : FuncData
  ft : Addr
  dt : FuncData
  fk : Addr
  fw : Addr
  fc : Addr
  fu : Addr
  dk : FuncData
  dw : FuncData
  dc : FuncData
  du : FuncData
  fb : Addr
  db : FuncData
structure TxtW (K : PySem.W.Frag) (mg : Str → Option Value) (A : EAd) (B : MAd) (Z : CAd) (W : TAd) (D : DAd) (L : LAd) (mc : Value) (pr f : Addr) (d : FuncData) : Prop where
  M : TxtM K mg B
  E : TxtE K mg A
  Bt : TxtBt K mg A D.C D.I D.eb
  C : TxtC K mg Z
  Tt : TxtT K mg W
  Rp : TxtRp K mg W D.f1 D.f2 D.f3 D.f4 D.f5 D.d1 D.d2 D.d3 D.d4 D.d5
  Ms : TxtMs K mg Z D.fs D.ds
  Rd : TxtRd K mg Z mc pr D.fr D.dr
  To : TxtTo K mg A D.C D.ft D.dt
  Ld : TxtLd K mg D.fk D.fw D.fc D.fu D.dk D.dw D.dc D.du
  Bn : TxtBn K mg L.p1 L.p2 L.p3 D.fb L.q1 L.q2 L.q3 D.db
  L : TxtL K mg L
  D_law : DefT K mg "law" "law" s_law ["script"] f d
  n_range : mg "range" = none
  n_min : mg "min" = none
  n_len : mg "len" = none
  n_str : mg "str" = none
def spLaw (K : PySem.W.Frag) : Sp := fun vs H Q _ => ∃ (a : Addr) (ns : List Int), vs = [.ref a] ∧ SqL K H a (ns.map V.int) ∧ ns.length ≤ 63 ∧ ∀ H', Q (.bl true) H'
abbrev Nlaw : List Str := ["script", "pen", "turn", "signs", "tables", "lines", "again", "bent", "change", "long", "k"]
theorem sc_law : FnScope Nlaw ["script"] (defScope s_law) := ⟨rfl, rfl, rfl, by decide +kernel, rfl, by decide +kernel, by decide +kernel⟩
section
variable {P : Program} {w : World} {K : PySem.W.Frag} {mg : Str → Option Value} {base : Heap} {A : EAd} {B : MAd} {Z : CAd} {W : TAd} {D : DAd} {L : LAd} {mc : Value} {pr f : Addr} {d : FuncData}
theorem pe_andR {X : Cx} {a b : Expr} {rest : List Expr} {ta tb : TE} {pos : Pos} (ha : PE X a ta) (hb : PE X (.BoolOp .And (b :: rest) pos) tb) : PE X (.BoolOp .And (a :: b :: rest) pos) (tAndV ta tb) := pe_and ha hb
theorem ok_law (T : TxtW K mg A B Z W D L mc pr f d) : FnOk P w K mg base CX0 9 f d ["script"] (spLaw K) := by
  have sc := sc_law
  have G_pen : FnOk P w K mg base CX0 1 L.p1 L.q1 ["script"] (spPen K) := ok_pen T.L.pen
  have G_draw : FnOk P w K mg base CX0 1 L.p2 L.q2 ["pen", "many"] spDraw := ok_draw T.L.pen
  have G_signs : FnOk P w K mg base CX0 2 L.f1 L.d1 ["pen", "many"] spSigns := ok_signs T.L
  have G_tables : FnOk P w K mg base CX0 4 L.f3 L.d3 ["pen", "signs", "most", "words"] spTables := ok_tables T.L
  have G_init : FnOk P w K mg base (L2.CX P w) 5 Z.f Z.d ["self", "signs", "rows", "ends"] (spInit K A Z) := ok_init T.M T.E T.C
  have G_str : FnOk P w K mg base CX0 2 D.fs D.ds ["self"] (spMStr Z) := ok_mstr T.M T.Tt T.C T.Ms
  have G_told : FnOk P w K mg base CX0 8 D.ft D.dt ["lines"] (spTold6 K) := ok_told T.M T.E T.Bt T.C T.Rp T.Rd T.To
  have G_due : FnOk P w K mg base CX0 3 D.fu D.du ["lines"] (spDue K) := ok_due T.Ld
  have G_bent : FnOk P w K mg base CX0 3 D.fb D.db ["pen", "lines"] spBent := ok_bent T.Bn
  refine T.D_law.F.ok sc (fun vs H Q E h => ?_) (fun cdv A1 outer s H vs Q E hr h => ?_)
  · obtain ⟨_, _, rfl, _⟩ := h; rfl
  · obtain ⟨sa, ns, rfl, hS, hl, kQ⟩ := h
    refine ⟨_, (pss_cons (ps_set (i := 1) sc.nd rfl (Or.inl rfl) (pe_call G_pen (hr.mono (by decide)) rfl T.L.pen.D__law_pen.g T.L.pen.D__law_pen.F.kp T.L.pen.D__law_pen.b .nil pass0 (pa_cons (pv 0) pa_nil)))
      (pss_cons (ps_for PassesOwn.never rfl (pi_range1 rfl T.n_range (pa_cons (pe_op op_add pe_int (pe_callB (call_min2 rfl) (by rfl) T.n_min (by decide +kernel) (pa_cons pe_int (pa_cons (pe_callB call_len (by rfl) T.n_len (by decide +kernel) (pa_cons (pv 0) pa_nil)) pa_nil)))) pa_nil)) (pg_name (i := 2) sc.nd rfl (Or.inl rfl))
      (pss_cons (ps_set (i := 3) sc.nd rfl (Or.inl rfl) (pe_call G_signs (hr.mono (by decide)) rfl T.L.D__law_signs.g T.L.D__law_signs.F.kp T.L.D__law_signs.b .nil pass0 (pa_cons (pv 1) (pa_cons (pe_op op_add pe_int (pe_call G_draw (hr.mono (by decide)) rfl T.L.pen.D__law_draw.g T.L.pen.D__law_draw.F.kp T.L.pen.D__law_draw.b .nil pass0 (pa_cons (pv 1) (pa_cons pe_int pa_nil)))) pa_nil))))
      (pss_cons (ps_set (i := 4) sc.nd rfl (Or.inl rfl) (pe_call G_tables (hr.mono (by decide)) rfl T.L.D__law_tables.g T.L.D__law_tables.F.kp T.L.D__law_tables.b .nil pass0 (pa_cons (pv 1) (pa_cons (pv 3) (pa_cons pe_int (pa_cons (pe_lst (pa_cons pe_str (pa_cons pe_str (pa_cons pe_str (pa_cons pe_str (pa_cons pe_str pa_nil)))))) pa_nil))))))
      (pss_cons (ps_set (i := 5) sc.nd rfl (Or.inl rfl) (pe_split (pe_callTy (call_strO G_str T.Ms.s T.Ms.i T.Ms.b pass0 (hr.mono (by decide))) (by rfl) T.n_str (by decide +kernel) (pa_cons (pe_make T.C.make G_init (hr.mono (by decide)) rfl T.C.g T.C.b .nil (passX fun _ _ _ h => h) (pa_cons (pv 3) (pa_cons (pe_ix ix_tup (pv 4) pe_int (fun _ _ => rfl)) (pa_cons (pe_ix ix_tup (pv 4) pe_int (fun _ _ => rfl)) pa_nil)))) pa_nil)) pe_str))
      (pss_cons (ps_if (pt_cmpR (op_neD hr.units) (pe_call G_told (hr.mono (by decide)) rfl T.To.D__law_told.g T.To.D__law_told.F.kp T.To.D__law_told.b .nil pass0 (pa_cons (pv 5) pa_nil)) (pe_call G_due (hr.mono (by decide)) rfl T.Ld.D__law_due.g T.Ld.D__law_due.F.kp T.Ld.D__law_due.b .nil pass0 (pa_cons (pv 5) pa_nil)) (nomark _)) (pss_one (ps_ret pe_bl)) pss_nil)
      (pss_one (ps_for PassesOwn.never rfl (pi_range1 rfl T.n_range (pa_cons pe_int pa_nil)) (pg_name (i := 6) sc.nd rfl (Or.inl rfl))
      (pss_cons (ps_set (i := 7) sc.nd rfl (Or.inl rfl) (pv 5))
      (pss_cons (ps_for PassesOwn.never rfl (pi_range1 rfl T.n_range (pa_cons (pe_op op_add pe_int (pe_call G_draw (hr.mono (by decide)) rfl T.L.pen.D__law_draw.g T.L.pen.D__law_draw.F.kp T.L.pen.D__law_draw.b .nil pass0 (pa_cons (pv 1) (pa_cons pe_int pa_nil)))) pa_nil)) (pg_name (i := 8) sc.nd rfl (Or.inl rfl))
      (pss_one (ps_set (i := 7) sc.nd rfl (Or.inl rfl) (pe_call G_bent (hr.mono (by decide)) rfl T.Bn.D__law_bent.g T.Bn.D__law_bent.F.kp T.Bn.D__law_bent.b .nil pass0 (pa_cons (pv 1) (pa_cons (pv 7) pa_nil))))))
      (pss_one (ps_if (pt_cmpR (op_neD hr.units) (pe_call G_told (hr.mono (by decide)) rfl T.To.D__law_told.g T.To.D__law_told.F.kp T.To.D__law_told.b .nil pass0 (pa_cons (pv 7) pa_nil)) (pe_call G_due (hr.mono (by decide)) rfl T.Ld.D__law_due.g T.Ld.D__law_due.F.kp T.Ld.D__law_due.b .nil pass0 (pa_cons (pv 7) pa_nil)) (nomark _)) (pss_one (ps_ret pe_bl)) pss_nil)))))))))))
      (pss_cons (ps_set (i := 9) sc.nd rfl (Or.inl rfl) (pe_op op_cat (pe_lst (pa_cons pe_str pa_nil)) (pe_lc (own := [("k", 10)]) (g := gName 10) (tt := tYes) (te := tC (.str "0 |")) rfl sc.nd (pi_range1 rfl T.n_range (pa_cons pe_int pa_nil)) (blkOk_by (N := Nlaw) (sc := defScope s_law) (own := [("k", 10)]) (by decide +kernel)) (fun _ _ _ _ _ => (pg_name (i := 10) sc.nd rfl (Or.inl rfl))) (fun _ _ _ _ _ => pts_nil) (fun _ _ _ _ _ => pe_str))))
      (pss_one (ps_ret (pe_and (pe_cmpR (op_eqD hr.units) (pe_call G_told (hr.mono (by decide)) rfl T.To.D__law_told.g T.To.D__law_told.F.kp T.To.D__law_told.b .nil pass0 (pa_cons (pv 9) pa_nil)) (pe_tup (pa_cons pe_str (pa_cons pe_int pa_nil))) (nomark _)) (pe_andR (pe_cmpR op_eq (pe_ix ix_tup (pe_call G_told (hr.mono (by decide)) rfl T.To.D__law_told.g T.To.D__law_told.F.kp T.To.D__law_told.b .nil pass0 (pa_cons (pe_slice sl_list (pv 9) po_none (po_some pe_int)) pa_nil)) pe_int (fun _ _ => rfl)) pe_str (nomark _)) (pe_one (pe_cmpR (op_eqD hr.units) (pe_call G_told (hr.mono (by decide)) rfl T.To.D__law_told.g T.To.D__law_told.F.kp T.To.D__law_told.b .nil pass0 (pa_cons (pe_lst (pa_cons pe_str pa_nil)) pa_nil)) (pe_tup (pa_cons pe_str (pa_cons pe_int pa_nil))) (nomark _)))))))))), ?_⟩
    refine ⟨_, rfl, sa, ns, rfl, hS, hl, fun p c H1 hp s1 pen1 => ?_⟩
    have hS1 := s1.seq hS
    refine ⟨_, rfl, .ref sa, ns.length, rfl, .inl ⟨_, hS1, by rw [List.length_map]⟩, _, _, rfl, _, _, rfl, rfl, ?_⟩
    have hm0 : 0 ≤ (if (ns.length : Int) < 6 then (ns.length : Int) else 6) ∧ (if (ns.length : Int) < 6 then (ns.length : Int) else 6) ≤ 6 := by
      split <;> omega
    generalize (if (ns.length : Int) < 6 then (ns.length : Int) else 6) = m at hm0 ⊢
    refine ⟨_, rfl, by omega, by omega, ?_⟩
    refine for_range (lo := 0) (n := (5 + m).toNat) (fun i σ H' => ∃ o2 o3 o4 o5 o6 o7 o8 o9 o10 : Option V, σ = [some (.ref sa), some (.ref p), o2, o3, o4, o5, o6, o7, o8, o9, o10] ∧ PenAt H' p c (1000 * i)) ⟨none, none, none, none, none, none, none, none, none, rfl, pen1⟩ ?_ ?_
    · rintro i σ H2 hi ⟨o2, o3, o4, o5, o6, o7, o8, o9, o10, rfl, pen2⟩
      refine ⟨_, rfl, _, rfl, p, c, 4, 1000 * i, rfl, pen2, by omega, by decide, by decide, fun r H3 r0 r1 pen3 sb3 => ?_⟩
      obtain ⟨r, rfl⟩ := Int.eq_ofNat_of_zero_le r0
      refine ⟨_, _, rfl, rfl, p, c, 1 + r, 1000 * i + 1, by rw [Int.natCast_add]; rfl, pen3, by omega, by omega, fun sg H4 zs nd al pen4 sb4 => ?_⟩
      have asc : sg.cps.all (· < 128) = true := by
        rw [← Array.all_toList, List.all_eq_true]
        intro x hx
        have := alpha_codes x (al x hx)
        exact decide_eq_true (by omega)
      have z4 : sg.cps.size ≤ 4 := by omega
      refine ⟨_, rfl, _, rfl, by show 5 ≤ sizeLine; decide, fun q5 hq5 => ?_⟩
      refine ⟨p, c, q5, sg, 16, 1000 * i + 1 + (1 + r), ["x", "key1", "0", "abcdefghij12", "y"], rfl, pen4.keep (Same.upd hq5), by omega, by omega, by decide, by decide, upd_same, by decide, by decide, fun t r e rv ev R Es many Hs m0 m16 ht hrv pR hev pE lR lE gR gE nt nr ne penS sbS => ?_⟩
      have w5 : (["x", "key1", "0", "abcdefghij12", "y"] : List Str).length ≤ 5 := by decide
      have so := five_k
      generalize (["x", "key1", "0", "abcdefghij12", "y"] : List Str) = ws at w5 so gR gE
      have pR0 : Paired (RowE Hs) rv R := L2.Paired.mapP pR fun _ _ ⟨a, vs, e1, e2, _, k⟩ => ⟨a, vs, e1, e2, L2.Paired.mapP k fun _ _ ⟨b, kv, e3, e4, e5, _⟩ => ⟨b, kv, e3, e4, e5⟩⟩
      have pE0 : Paired (KeyE Hs) ev Es := L2.Paired.mapP pE fun _ _ ⟨a, e1, e2, _⟩ => ⟨a, e1, e2⟩
      have hR : ∀ q ∈ R, q.length = sg.cps.size ∧ ∀ w ∈ q, Okw R.length w ∧ w.2.length ≤ 2 ∧ kl w.2 = w.2 ∧ ∀ y ∈ w.2, y ∈ ws := fun q hq => ⟨(gR q hq).1, fun w hw => by
        obtain ⟨h1, h2, h3, h4, h5⟩ := (gR q hq).2 w hw
        exact ⟨⟨h1, by rw [lR]; exact h2⟩, h4, h5, h3⟩⟩
      have hE : ∀ ks ∈ Es, ks.length ≤ 2 ∧ kl ks = ks ∧ ∀ y ∈ ks, y ∈ ws := fun ks hks => by
        obtain ⟨h3, h4, h5⟩ := gE ks hks
        exact ⟨h4, h5, h3⟩
      have inW : ∀ y ∈ keysOfRows R ++ Es.flatten, y ∈ ws := fun y hy => by
        rcases List.mem_append.mp hy with hy | hy
        · obtain ⟨q, hq, hy⟩ := List.mem_flatMap.mp hy
          obtain ⟨w, hw, hy⟩ := List.mem_flatMap.mp hy
          exact ((hR q hq).2 w hw).2.2.2 y hy
        · obtain ⟨ks, hks, hy⟩ := List.mem_flatten.mp hy
          exact (hE ks hks).2.2 y hy
      have few5 : ∀ X : List Str, (∀ y ∈ X, y ∈ ws) → (kl X).length ≤ 5 := fun X hX => Nat.le_trans (nd_sub_len (kl_nodup _) fun y hy => hX y (kl_mem.mp hy)) w5
      have at0 : atI ([.ref r, .ref e] : List V) 0 = some (.ref r) := atI_nat (j := 0) rfl
      have at1 : atI ([.ref r, .ref e] : List V) 1 = some (.ref e) := atI_nat (j := 1) rfl
      have okrow : ∀ q ∈ R, q.length = sg.cps.size ∧ ∀ w ∈ q, Okw R.length w ∧ w.2.length ≤ 4 := fun q hq => ⟨(hR q hq).1, fun w hw => ⟨((hR q hq).2 w hw).1, Nat.le_trans ((hR q hq).2 w hw).2.1 (by decide)⟩⟩
      have kR : ∀ q ∈ R, ∀ w ∈ q, kl w.2 = w.2 := fun q hq w hw => ((hR q hq).2 w hw).2.2.1
      have kE : ∀ ks ∈ Es, kl ks = ks := fun ks hks => (hE ks hks).2.1
      have nrR : R.map nrm = R := map_same fun q hq => nrm_same (kR q hq)
      have nrE : Es.map kl = Es := map_same kE
      have r16 : R.length ≤ 16 := by omega
      have eqL : Es.length = R.length := by rw [lE, lR]
      -- lines = str(machine).split("\n")
      refine ⟨_, rfl, _, rfl, t, _, 0, _, rfl, rfl, SqT.of ht, at0, _, rfl, t, _, 1, _, rfl, rfl, SqT.of ht, at1, fun m9 dx9 hm9 hdx9 ne9 => ?_⟩
      refine init_ok hm9 hdx9 hrv pR0 hev pE0 asc z4 okrow (by omega) (by omega) (fun ks hks => Nat.le_trans (hE ks hks).1 (by decide)) (Nat.le_trans (few5 _ inW) (by decide)) fun H9 s9 ma9 => ⟨rfl, ?_⟩
      rw [nrR, nrE] at ma9
      have pen9 : PenAt H9 p c (1000 * i + 410) := (penS.keep s9).mono (by omega)
      have SH : Shr sg R Es := ⟨z4, r16, eqL, fun q hq ks hks => ⟨by rw [(hR q hq).1]; exact z4, fun w hw => by
          obtain ⟨⟨h1, h2⟩, _⟩ := (hR q hq).2 w hw
          exact ⟨h1, by omega⟩, fun w hw => ((hR q hq).2 w hw).2.1, fun w hw y hy => (so y (((hR q hq).2 w hw).2.2.2 y hy)).2.2, (hE ks hks).1, fun y hy => (so y ((hE ks hks).2.2 y hy)).2.2⟩⟩
      have std : ∀ l ∈ linesTx sg R Es, LnQ 7 l := std_lines z4 al (fun q hq => ⟨by rw [(hR q hq).1]; exact z4, fun w hw => by
          obtain ⟨⟨h1, h2⟩, h3, _, h5⟩ := (hR q hq).2 w hw
          exact ⟨⟨h1, fun y hy => (so y (h5 y hy)).1⟩, by omega, h3⟩⟩) fun ks hks => ⟨(hE ks hks).1, fun y hy => (so y ((hE ks hks).2.2 y hy)).1⟩
      have tl : (machTx sg R Es).cps.size ≤ 20000 := Nat.le_trans (join_len _ _) (lines_sum SH)
      have spl := std_split std
      have sln := std_len (sg := sg) eqL
      obtain ⟨dx, _, _, _, _, _, _, _, hm0, _⟩ := id ma9
      refine ⟨m9, dx, _, rfl, hm0, m9, sg, R, Es, rfl, ma9, SH, fun H10 s10 => ?_⟩
      refine ⟨_, rfl, ⟨_, rfl⟩, machTx sg R Es, "\n", rfl, rfl, by decide, by show (machTx sg R Es).cps.size + 2 ≤ _; rw [sizeLine_eq]; omega, fun Wl hW => ?_⟩
      rw [spl]
      have hx : linesTx sg R Es = headTx sg :: List.zipWith lineTx R Es := rfl
      have penW : PenAt (upd H10 Wl (.lst ((linesTx sg R Es).map V.str))) p c (1000 * i + 410) := (pen9.keep s10).keep (Same.upd hW)
      have hW1 : (upd H10 Wl (.lst ((linesTx sg R Es).map V.str))) Wl = some (.lst ((linesTx sg R Es).map V.str)) := upd_same
      generalize upd H10 Wl (.lst ((linesTx sg R Es).map V.str)) = H11 at penW hW1 ⊢
      rw [hx] at hW1 std sln
      generalize headTx sg = l0 at hW1 std sln
      generalize List.zipWith lineTx R Es = lt at hW1 std sln
      have l16 : lt.length ≤ 16 := by
        rw [List.length_cons] at sln
        omega
      clear hx spl tl SH ma9 hm0 pR0 pE0 pR pE penS sbS pen4 pen3 pen2 hrv hev ht nt nr ne pen9 s9 s10 hW
      -- told(lines) != due(lines)
      refine ⟨_, rfl, Wl, l0, lt, rfl, hW1, by omega, fun l hl => (std l hl).lnf (by decide), fun v1 D1 H12 s12 t1 d1 e1 => ?_⟩
      refine ⟨_, rfl, Wl, l0, lt, rfl, s12 _ _ hW1, by omega, fun l hl => ((std l hl).lnf (by decide)).1, fun v2 D2 H13 s13 t2 d2 e2 => ?_⟩
      obtain rfl := told_one t1 t2
      refine ⟨D1, D1, Dp.keepS s13 _ _ d1, d2, (sh_told t1).ok (by decide), (sh_told t1).ok (by decide), _, rfl, ?_⟩
      rw [(sh_told t1).refl]
      refine iteF ?_
      have hW2 := s13 _ _ (s12 _ _ hW1)
      have pen13 := (penW.keep s12).keep s13
      clear t1 t2 d1 d2 e1 e2 s12 s13 hW1 penW
      -- for again
      refine ⟨8, rfl, by decide, by decide, ?_⟩
      refine for_range (lo := 0) (n := 8) (fun j σ H' => ∃ o6 o7 o8 o9 o10 : Option V, σ = [some (.ref sa), some (.ref p), some (.int (0 + (i : Nat))), some (.str sg), some (.ref t), some (.ref Wl), o6, o7, o8, o9, o10] ∧ PenAt H' p c (1000 * i + 410 + 30 * j) ∧ H' Wl = some (.lst ((l0 :: lt).map V.str))) ⟨_, _, _, _, _, rfl, pen13, hW2⟩ ?_ ?_
      · rintro j σ H14 hj ⟨o6, o7, o8, o9, o10, rfl, pen14, hW14⟩
        refine ⟨_, rfl, ?_⟩
        refine ⟨_, rfl, p, c, 2, _, rfl, pen14, by omega, by decide, by decide, fun r H15 r0 r1 pen15 sb15 => ?_⟩
        obtain ⟨r, rfl⟩ := Int.eq_ofNat_of_zero_le r0
        have hW15 := sb15 _ _ hW14 (pen14.ne hW14)
        refine ⟨_, _, rfl, rfl, _, rfl, by omega, by omega, ?_⟩
        refine for_range (lo := 0) (n := (1 + (r : Int)).toNat) (fun k σ H' => ∃ (q : Addr) (ls : List Str) (o8 : Option V), σ = [some (.ref sa), some (.ref p), some (.int (0 + (i : Nat))), some (.str sg), some (.ref t), some (.ref Wl), some (.int (0 + (j : Nat))), some (.ref q), o8, o9, o10] ∧ PenAt H' p c (1000 * i + 410 + 30 * j + 1 + 10 * k) ∧ H' Wl = some (.lst ((l0 :: lt).map V.str)) ∧ H' q = some (.lst (ls.map V.str)) ∧ 1 ≤ ls.length ∧ ls.length ≤ 17 + k ∧ ∀ l ∈ ls, LnQ (7 + k) l) ⟨Wl, l0 :: lt, _, rfl, pen15, hW15, hW15, by simp, by simp; omega, std⟩ ?_ ?_
        · rintro k σ H16 hk ⟨q, ls, o8, rfl, pen16, hW16, hq16, l1, l17, lq⟩
          refine ⟨_, rfl, _, rfl, p, c, q, _, 7 + k, ls, rfl, pen16, by omega, hq16, l1, by omega, by omega, by omega, lq, fun q' ls' H17 hq17 m1 m17 lq' pen17 sb17 => ?_⟩
          exact ⟨q', ls', _, rfl, pen17, sb17 _ _ hW16 (pen16.ne hW16), hq17, m1, by omega, lq'⟩
        · rintro σ H16 ⟨q, ls, o8, rfl, pen16, hW16, hq16, l1, l17, lq⟩
          have k2 : (1 + (r : Int)).toNat ≤ 2 := by omega
          generalize (1 + (r : Int)).toNat = k at k2 pen16 l17 lq
          cases ls with
          | nil => exact absurd l1 (by simp)
          | cons b0 bs =>
            rw [List.length_cons] at l17
            refine ⟨_, rfl, q, b0, bs, rfl, hq16, by omega, fun l hl => (lq l hl).lnf (by omega), fun v1 D1 H17 s17 t1 d1 e1 => ?_⟩
            refine ⟨_, rfl, q, b0, bs, rfl, s17 _ _ hq16, by omega, fun l hl => ((lq l hl).lnf (by omega)).1, fun v2 D2 H18 s18 t2 d2 e2 => ?_⟩
            obtain rfl := told_one t1 t2
            refine ⟨D1, D1, Dp.keepS s18 _ _ d1, d2, (sh_told t1).ok (by decide), (sh_told t1).ok (by decide), _, rfl, ?_⟩
            rw [(sh_told t1).refl]
            refine iteF ?_
            exact ⟨_, _, _, _, _, rfl, ((pen16.keep s17).keep s18).mono (by omega), s18 _ _ (s17 _ _ hW16)⟩
      · rintro σ H14 ⟨o6, o7, o8, o9, o10, rfl, pen14, hW14⟩
        exact ⟨_, _, _, _, _, _, _, _, _, rfl, pen14.mono (by omega)⟩
    · rintro σ H2 ⟨o2, o3, o4, o5, o6, o7, o8, o9, o10, rfl, pen2⟩
      clear pen1 hS1 hS s1
      refine ⟨by show 1 ≤ sizeLine; decide, fun O hO => ?_⟩
      refine ⟨17, rfl, by decide, by decide, fun Dd hD => ?_⟩
      refine lc_range (lo := 0) (n := 17) (fun j H' => Same (upd H2 O (.lst [.str "signs a"])) H' ∧ H' Dd = some (.lst ((List.replicate j ("0 |" : Str)).map V.str))) ⟨Same.upd hD, upd_same⟩ ?_ ?_
      · rintro j H' hj ⟨sj, ej⟩
        refine ⟨rfl, _, ej, ?_, ?_, ?_⟩
        · rw [List.length_map, List.length_replicate]; exact Nat.lt_of_lt_of_le hj (by decide)
        · intro b o z
          rw [upd_ne (ne_of_none z hD)]; exact sj _ _ z
        · rw [upd_same, List.replicate_succ', List.map_append]; rfl
      · rintro H3 ⟨s3, h3⟩
        refine ⟨O, Dd, _, _, rfl, rfl, s3 _ _ upd_same, h3, by rw [List.length_map, List.length_replicate]; show 1 + 17 ≤ sizeLine; decide, fun X hX => ?_⟩
        have hX1 : (upd H3 X (.lst ([V.str "signs a"] ++ (List.replicate 17 ("0 |" : Str)).map V.str))) X = some (.lst ((("signs a" : Str) :: List.replicate 17 "0 |").map V.str)) := upd_same
        generalize upd H3 X (.lst ([V.str "signs a"] ++ (List.replicate 17 ("0 |" : Str)).map V.str)) = H4 at hX1 ⊢
        refine ⟨_, rfl, X, "signs a", List.replicate 17 "0 |", rfl, hX1, by rw [List.length_replicate]; decide, fun l hl => long_lnf hl, fun v1 D1 H5 s5 t1 d1 e1 => ?_⟩
        refine ⟨by show 2 ≤ sizeLine; decide, fun Y hY => ?_⟩
        refine ⟨D1, lineD 18, Dp.keepS (Same.upd hY) _ _ d1, .tup (SqT.of upd_same) (.cons (.str _) (.cons (.int _) .nil)), (sh_told t1).ok (by decide), (sh_line 18).ok (by decide), _, rfl, ?_⟩
        rw [long_told t1, (sh_line 18).refl]
        refine iteT ?_
        refine ⟨_, rfl, _, rfl, X, _, rfl, SqL.of (Same.upd hY _ _ (s5 _ _ hX1)), fun Z1 hZ => ?_⟩
        rw [show cutV ((("signs a" : Str) :: List.replicate 17 "0 |").map V.str) none (some (17 : Int)) = (("signs a" : Str) :: List.replicate 16 "0 |").map V.str from cut_words _ 17]
        refine ⟨Z1, "signs a", List.replicate 16 "0 |", rfl, upd_same, by rw [List.length_replicate]; decide, fun l hl => long_lnf hl, fun v2 D2 H6 s6 t2 d2 e2 => ?_⟩
        obtain ⟨r, e, rfl⟩ := long16_told t2
        cases d2 with
        | tup sq da =>
          cases da with
          | cons x1 rest =>
            cases x1
            refine ⟨_, _, 0, _, rfl, rfl, sq, atI_nat (j := 0) rfl, rfl, _, rfl, ?_⟩
            rw [decide_eq_true rfl]
            refine iteT ?_
            refine ⟨by show 1 ≤ sizeLine; decide, fun G hG => ⟨G, "", [], rfl, upd_same, by decide, fun l hl => ?_, fun v3 D3 H7 s7 t3 d3 e3 => ?_⟩⟩
            · rw [List.mem_singleton.mp hl]
              exact const_lnf (by simp)
            refine ⟨by show 2 ≤ sizeLine; decide, fun U hU => ?_⟩
            refine ⟨D3, lineD 1, Dp.keepS (Same.upd hU) _ _ d3, .tup (SqT.of upd_same) (.cons (.str _) (.cons (.int _) .nil)), (sh_told t3).ok (by decide), (sh_line 1).ok (by decide), ?_⟩
            rw [empty_told t3, (sh_line 1).refl]
            exact kQ _
end
end Kx

namespace Kx
open PySem L2 Own
theorem err_mk {K : PySem.W.Frag} {mg : Str → Option Value} {name : Str} {C M : Addr} {nm q : Str} {N : Addr} {bs : List Value} {sn : List Str} {sub : List Value} {ab : Bool} {col : Option Bool} {dd : Option Addr} {m0 m1 m2 m3 m5 : Option Value}
    (g : mg name = some (.ref C)) (xL : K.lookup C = some (excClassObj nm q C N bs (tailM M) true sn sub ab col dd m0 m1 m2 m3 m5 "ValueError.__new__"))
    (sa : PySem.W.findIn K (.ref C) "__setattr__" = some (some (.builtin "object.__setattr__"))) (ga : PySem.W.findIn K (.ref C) "__getattribute__" = some (some (.builtin "BaseException.__getattribute__"))) (gg : PySem.W.findIn K (.ref C) "__getattr__" = some none)
    (ha : PySem.W.findIn K (.ref C) "__class__" = some (some (.builtin "object.__class__"))) (hn : PySem.W.specialIn K (.builtin "object.__class__") "__get__" = some (some (.builtin "getset_descriptor.__get__"))) (ht : PySem.W.takesIn K (.builtin "object.__class__") = some true)
    (kC : PySem.W.keepIn K (.ref C) = true) : ErrC K mg name C M := by
  have hc : PySem.W.clsIn K C = some { name := nm, bases := bs, mro := .ref C :: tailM M, ns := N, qualname := q, hasDict := true, slotNames := sn, subclasses := sub, abstract := ab, collection := col, hasDel := false } := by unfold PySem.W.clsIn; rw [xL] <;> rfl
  have hs : ∀ b : Value, PySem.W.subIn K (.ref C) b = some ((Value.ref C :: tailM M).contains b) := fun b => by
    show PySem.W.mroIn K C b = _
    unfold PySem.W.mroIn
    rw [hc]
    rfl
  have ty : PySem.W.typeIn K (.ref C) = some (.type "type") := by
    show (K.lookup C).map (·.cls) = _
    rw [xL]
    rfl
  have hd : PySem.W.hasDictIn K C = true := by unfold PySem.W.hasDictIn; rw [hc]; rfl
  have eB : PySem.W.subIn K (.ref C) (.type "BaseException") = some true := by rw [hs]; rfl
  have eO : PySem.W.mroIn K C (.type "object") = some true := (hs (.type "object")).trans rfl
  refine ⟨g, ⟨⟨nm, q, N, bs, _, sn, sub, ab, col, dd, m0, m1, m2, m3, m5, xL, by rfl⟩, sa, eB, ty, kC⟩, ⟨ga, gg, eB, hd, ha, hn, ht, eO⟩, by unfold PySem.W.isClsIn; rw [hc]; rfl, hs⟩
theorem kit_M {K : PySem.W.Frag} {t : Value} {C : Addr} (hd : PySem.W.hasDictIn K C = true) (ty : PySem.W.typeIn K (.ref C) = some (.type "type")) (h : PySem.W.subIn K t (.ref C) = some true) : PySem.W.kitOne K t (.ref C) = some true := by
  unfold PySem.W.kitOne
  by_cases c : (t == Value.ref C) = true
  · rw [if_pos c]
  · rw [if_neg c]
    show (if ((PySem.W.clsIn K C).isSome && PySem.W.typeIn K (.ref C) == some (.type "type")) = true then PySem.W.subIn K t (.ref C) else none) = _
    have z : (PySem.W.clsIn K C).isSome = true := by
      unfold PySem.W.hasDictIn at hd
      cases e : PySem.W.clsIn K C with
      | none => rw [e] at hd; cases hd
      | some _ => rfl
    rw [z, ty, if_pos (by rfl), h]
theorem all_mk {l : PySem.W.OpenLaw} {w : World} {K : PySem.W.Frag} {h : Heap} {mg : Str → Option Value} {fa : Addr} (X : K.In h) (G : h.Ns mainGlobals mg) (hfa : mg "law" = some (.ref fa))
    {prRead : Addr} {restRead : List Value}
    {M : Addr}
    {CBadText NBadText : Addr} {nmBadText qBadText : Str} {bsBadText subBadText : List Value} {snBadText : List Str} {abBadText : Bool} {colBadText : Option Bool} {ddBadText : Option Addr} {maBadText mbBadText mcBadText mdBadText meBadText : Option Value}
    {IBadText : Addr} {odiBadText aniBadText : Option Addr} {sliBadText : Array (Option Value)} {ociBadText kViBadText dciBadText pmiBadText cdiBadText ctiBadText : Value}
    {CBadMachine NBadMachine : Addr} {nmBadMachine qBadMachine : Str} {bsBadMachine subBadMachine : List Value} {snBadMachine : List Str} {abBadMachine : Bool} {colBadMachine : Option Bool} {ddBadMachine : Option Addr} {maBadMachine mbBadMachine mcBadMachine mdBadMachine meBadMachine : Option Value}
    {IBadMachine : Addr} {odiBadMachine aniBadMachine : Option Addr} {sliBadMachine : Array (Option Value)} {ociBadMachine kViBadMachine dciBadMachine pmiBadMachine cdiBadMachine ctiBadMachine : Value}
    {CTooMany NTooMany : Addr} {nmTooMany qTooMany : Str} {bsTooMany subTooMany : List Value} {snTooMany : List Str} {abTooMany : Bool} {colTooMany : Option Bool} {ddTooMany : Option Addr} {maTooMany mbTooMany mcTooMany mdTooMany meTooMany : Option Value}
    {ITooMany : Addr} {odiTooMany aniTooMany : Option Addr} {sliTooMany : Array (Option Value)} {ociTooMany kViTooMany dciTooMany pmiTooMany cdiTooMany ctiTooMany : Value}
    {CMachine : Addr}
    {fMachine_init : Addr} {odMachine_init anMachine_init : Option Addr} {slMachine_init : Array (Option Value)} {ocMachine_init kVMachine_init dcMachine_init pmMachine_init cdMachine_init ctMachine_init : Value}
    {fMachine_str : Addr} {odMachine_str anMachine_str : Option Addr} {slMachine_str : Array (Option Value)} {ocMachine_str kVMachine_str dcMachine_str pmMachine_str cdMachine_str ctMachine_str : Value}
    {fMachine_read : Addr} {odMachine_read anMachine_read : Option Addr} {slMachine_read : Array (Option Value)} {ocMachine_read kVMachine_read dcMachine_read pmMachine_read cdMachine_read ctMachine_read : Value}
    {fis_whole : Addr} {odis_whole anis_whole : Option Addr} {slis_whole : Array (Option Value)} {ocis_whole kVis_whole dcis_whole pmis_whole cdis_whole ctis_whole : Value}
    {fare_signs : Addr} {odare_signs anare_signs : Option Addr} {slare_signs : Array (Option Value)} {ocare_signs kVare_signs dcare_signs pmare_signs cdare_signs ctare_signs : Value}
    {fis_key : Addr} {odis_key anis_key : Option Addr} {slis_key : Array (Option Value)} {ocis_key kVis_key dcis_key pmis_key cdis_key ctis_key : Value}
    {fkey_list : Addr} {odkey_list ankey_list : Option Addr} {slkey_list : Array (Option Value)} {ockey_list kVkey_list dckey_list pmkey_list cdkey_list ctkey_list : Value}
    {fcheck_ways : Addr} {odcheck_ways ancheck_ways : Option Addr} {slcheck_ways : Array (Option Value)} {occheck_ways kVcheck_ways dccheck_ways pmcheck_ways cdcheck_ways ctcheck_ways : Value}
    {fkeys_in : Addr} {odkeys_in ankeys_in : Option Addr} {slkeys_in : Array (Option Value)} {ockeys_in kVkeys_in dckeys_in pmkeys_in cdkeys_in ctkeys_in : Value}
    {fcopied : Addr} {odcopied ancopied : Option Addr} {slcopied : Array (Option Value)} {occopied kVcopied dccopied pmcopied cdcopied ctcopied : Value}
    {fstate_line : Addr} {odstate_line anstate_line : Option Addr} {slstate_line : Array (Option Value)} {ocstate_line kVstate_line dcstate_line pmstate_line cdstate_line ctstate_line : Value}
    {fread_parts : Addr} {odread_parts anread_parts : Option Addr} {slread_parts : Array (Option Value)} {ocread_parts kVread_parts dcread_parts pmread_parts cdread_parts ctread_parts : Value}
    {fspaced_words : Addr} {odspaced_words anspaced_words : Option Addr} {slspaced_words : Array (Option Value)} {ocspaced_words kVspaced_words dcspaced_words pmspaced_words cdspaced_words ctspaced_words : Value}
    {fread_signs : Addr} {odread_signs anread_signs : Option Addr} {slread_signs : Array (Option Value)} {ocread_signs kVread_signs dcread_signs pmread_signs cdread_signs ctread_signs : Value}
    {fread_state : Addr} {odread_state anread_state : Option Addr} {slread_state : Array (Option Value)} {ocread_state kVread_state dcread_state pmread_state cdread_state ctread_state : Value}
    {fread_way : Addr} {odread_way anread_way : Option Addr} {slread_way : Array (Option Value)} {ocread_way kVread_way dcread_way pmread_way cdread_way ctread_way : Value}
    {fare_keys : Addr} {odare_keys anare_keys : Option Addr} {slare_keys : Array (Option Value)} {ocare_keys kVare_keys dcare_keys pmare_keys cdare_keys ctare_keys : Value}
    {f_law_pen : Addr} {od_law_pen an_law_pen : Option Addr} {sl_law_pen : Array (Option Value)} {oc_law_pen kV_law_pen dc_law_pen pm_law_pen cd_law_pen ct_law_pen : Value}
    {f_law_draw : Addr} {od_law_draw an_law_draw : Option Addr} {sl_law_draw : Array (Option Value)} {oc_law_draw kV_law_draw dc_law_draw pm_law_draw cd_law_draw ct_law_draw : Value}
    {f_law_pick : Addr} {od_law_pick an_law_pick : Option Addr} {sl_law_pick : Array (Option Value)} {oc_law_pick kV_law_pick dc_law_pick pm_law_pick cd_law_pick ct_law_pick : Value}
    {f_law_signs : Addr} {od_law_signs an_law_signs : Option Addr} {sl_law_signs : Array (Option Value)} {oc_law_signs kV_law_signs dc_law_signs pm_law_signs cd_law_signs ct_law_signs : Value}
    {f_law_keys : Addr} {od_law_keys an_law_keys : Option Addr} {sl_law_keys : Array (Option Value)} {oc_law_keys kV_law_keys dc_law_keys pm_law_keys cd_law_keys ct_law_keys : Value}
    {f_law_tables : Addr} {od_law_tables an_law_tables : Option Addr} {sl_law_tables : Array (Option Value)} {oc_law_tables kV_law_tables dc_law_tables pm_law_tables cd_law_tables ct_law_tables : Value}
    {f_law_are_keys : Addr} {od_law_are_keys an_law_are_keys : Option Addr} {sl_law_are_keys : Array (Option Value)} {oc_law_are_keys kV_law_are_keys dc_law_are_keys pm_law_are_keys cd_law_are_keys ct_law_are_keys : Value}
    {f_law_way : Addr} {od_law_way an_law_way : Option Addr} {sl_law_way : Array (Option Value)} {oc_law_way kV_law_way dc_law_way pm_law_way cd_law_way ct_law_way : Value}
    {f_law_due : Addr} {od_law_due an_law_due : Option Addr} {sl_law_due : Array (Option Value)} {oc_law_due kV_law_due dc_law_due pm_law_due cd_law_due ct_law_due : Value}
    {f_law_counted : Addr} {od_law_counted an_law_counted : Option Addr} {sl_law_counted : Array (Option Value)} {oc_law_counted kV_law_counted dc_law_counted pm_law_counted cd_law_counted ct_law_counted : Value}
    {f_law_told : Addr} {od_law_told an_law_told : Option Addr} {sl_law_told : Array (Option Value)} {oc_law_told kV_law_told dc_law_told pm_law_told cd_law_told ct_law_told : Value}
    {f_law_bent : Addr} {od_law_bent an_law_bent : Option Addr} {sl_law_bent : Array (Option Value)} {oc_law_bent kV_law_bent dc_law_bent pm_law_bent cd_law_bent ct_law_bent : Value}
    {flaw : Addr} {odlaw anlaw : Option Addr} {sllaw : Array (Option Value)} {oclaw kVlaw dclaw pmlaw cdlaw ctlaw : Value}
    {tMOST_KEYS : Tok}
    {tLONGEST_KEY : Tok}
    {tMOST_SIGNS : Tok}
    {tMOST_STATES : Tok}
    {tKEY_LETTERS : Tok}
    {tLETTERS : Tok}
    (hn : PySem.W.specialIn K (.builtin "object.__class__") "__get__" = some (some (.builtin "getset_descriptor.__get__")))
    (ht : PySem.W.takesIn K (.builtin "object.__class__") = some true)
    (aM : PySem.W.nsIn K mainGlobals "MissError" = some (some (.ref M)))
    (m1 : PySem.W.subIn K (.ref M) (.type "BaseException") = some true)
    (m2 : PySem.W.hasDictIn K M = true)
    (m3 : PySem.W.typeIn K (.ref M) = some (.type "type"))
    (aCBadText : PySem.W.nsIn K mainGlobals "BadText" = some (some (.ref CBadText)))
    (xLBadText : K.lookup CBadText = some (excClassObj nmBadText qBadText CBadText NBadText bsBadText (tailM M) true snBadText subBadText abBadText colBadText ddBadText maBadText mbBadText mcBadText mdBadText meBadText "ValueError.__new__"))
    (saBadText : PySem.W.findIn K (.ref CBadText) "__setattr__" = some (some (.builtin "object.__setattr__")))
    (gaBadText : PySem.W.findIn K (.ref CBadText) "__getattribute__" = some (some (.builtin "BaseException.__getattribute__")))
    (ggBadText : PySem.W.findIn K (.ref CBadText) "__getattr__" = some none)
    (hcBadText : PySem.W.findIn K (.ref CBadText) "__class__" = some (some (.builtin "object.__class__")))
    (kCBadText : PySem.W.keepIn K (.ref CBadText) = true)
    (iCBadText : PySem.W.findIn K (.ref CBadText) "__init__" = some (some (.ref IBadText)))
    (tIBadText : PySem.W.typeIn K (.ref IBadText) = some (.type "function"))
    (lIBadText : K.lookup IBadText = some ⟨ociBadText, odiBadText, .func (PySem.W.fnOf "__init__" "BadText.__init__" (defArgs s_BadText) (defBody s_BadText) (defScope s_BadText) .none kViBadText dciBadText pmiBadText aniBadText cdiBadText ctiBadText), sliBadText⟩)
    (cIBadText : PySem.W.codeIn K cdiBadText "BadText.__init__" = true)
    (kIBadText : PySem.W.keepIn K (.ref IBadText) = true)
    (nfBadText_line : PySem.W.findIn K (.ref CBadText) "line" = some none)
    (aCBadMachine : PySem.W.nsIn K mainGlobals "BadMachine" = some (some (.ref CBadMachine)))
    (xLBadMachine : K.lookup CBadMachine = some (excClassObj nmBadMachine qBadMachine CBadMachine NBadMachine bsBadMachine (tailM M) true snBadMachine subBadMachine abBadMachine colBadMachine ddBadMachine maBadMachine mbBadMachine mcBadMachine mdBadMachine meBadMachine "ValueError.__new__"))
    (saBadMachine : PySem.W.findIn K (.ref CBadMachine) "__setattr__" = some (some (.builtin "object.__setattr__")))
    (gaBadMachine : PySem.W.findIn K (.ref CBadMachine) "__getattribute__" = some (some (.builtin "BaseException.__getattribute__")))
    (ggBadMachine : PySem.W.findIn K (.ref CBadMachine) "__getattr__" = some none)
    (hcBadMachine : PySem.W.findIn K (.ref CBadMachine) "__class__" = some (some (.builtin "object.__class__")))
    (kCBadMachine : PySem.W.keepIn K (.ref CBadMachine) = true)
    (iCBadMachine : PySem.W.findIn K (.ref CBadMachine) "__init__" = some (some (.ref IBadMachine)))
    (tIBadMachine : PySem.W.typeIn K (.ref IBadMachine) = some (.type "function"))
    (lIBadMachine : K.lookup IBadMachine = some ⟨ociBadMachine, odiBadMachine, .func (PySem.W.fnOf "__init__" "BadMachine.__init__" (defArgs s_BadMachine) (defBody s_BadMachine) (defScope s_BadMachine) .none kViBadMachine dciBadMachine pmiBadMachine aniBadMachine cdiBadMachine ctiBadMachine), sliBadMachine⟩)
    (cIBadMachine : PySem.W.codeIn K cdiBadMachine "BadMachine.__init__" = true)
    (kIBadMachine : PySem.W.keepIn K (.ref IBadMachine) = true)
    (nfBadMachine_state : PySem.W.findIn K (.ref CBadMachine) "state" = some none)
    (nfBadMachine_place : PySem.W.findIn K (.ref CBadMachine) "place" = some none)
    (aCTooMany : PySem.W.nsIn K mainGlobals "TooMany" = some (some (.ref CTooMany)))
    (xLTooMany : K.lookup CTooMany = some (excClassObj nmTooMany qTooMany CTooMany NTooMany bsTooMany (tailM M) true snTooMany subTooMany abTooMany colTooMany ddTooMany maTooMany mbTooMany mcTooMany mdTooMany meTooMany "ValueError.__new__"))
    (saTooMany : PySem.W.findIn K (.ref CTooMany) "__setattr__" = some (some (.builtin "object.__setattr__")))
    (gaTooMany : PySem.W.findIn K (.ref CTooMany) "__getattribute__" = some (some (.builtin "BaseException.__getattribute__")))
    (ggTooMany : PySem.W.findIn K (.ref CTooMany) "__getattr__" = some none)
    (hcTooMany : PySem.W.findIn K (.ref CTooMany) "__class__" = some (some (.builtin "object.__class__")))
    (kCTooMany : PySem.W.keepIn K (.ref CTooMany) = true)
    (iCTooMany : PySem.W.findIn K (.ref CTooMany) "__init__" = some (some (.ref ITooMany)))
    (tITooMany : PySem.W.typeIn K (.ref ITooMany) = some (.type "function"))
    (lITooMany : K.lookup ITooMany = some ⟨ociTooMany, odiTooMany, .func (PySem.W.fnOf "__init__" "TooMany.__init__" (defArgs s_TooMany) (defBody s_TooMany) (defScope s_TooMany) .none kViTooMany dciTooMany pmiTooMany aniTooMany cdiTooMany ctiTooMany), sliTooMany⟩)
    (cITooMany : PySem.W.codeIn K cdiTooMany "TooMany.__init__" = true)
    (kITooMany : PySem.W.keepIn K (.ref ITooMany) = true)
    (nfTooMany_what : PySem.W.findIn K (.ref CTooMany) "what" = some none)
    (s_BadText_BadText : PySem.W.subIn K (.ref CBadText) (.ref CBadText) = some true)
    (s_TooMany_BadText : PySem.W.subIn K (.ref CTooMany) (.ref CBadText) = some false)
    (s_TooMany_TooMany : PySem.W.subIn K (.ref CTooMany) (.ref CTooMany) = some true)
    (aCMachine : PySem.W.nsIn K mainGlobals "Machine" = some (some (.ref CMachine)))
    (pgMachine : PySem.W.plainGet K CMachine Str.empty = true)
    (hdMachine : PySem.W.hasDictIn K CMachine = true)
    (poMachine : PySem.W.plainOver K CMachine = true)
    (saMachine : PySem.W.findIn K (.ref CMachine) "__setattr__" = some (some (.builtin "object.__setattr__")))
    (mkMachine : PySem.W.makesIn K CMachine = true)
    (kcMachine : PySem.W.keepIn K (.ref CMachine) = true)
    (naMachine_signs : PySem.W.findIn K (.ref CMachine) "signs" = some none)
    (naMachine_rows : PySem.W.findIn K (.ref CMachine) "rows" = some none)
    (naMachine_ends : PySem.W.findIn K (.ref CMachine) "ends" = some none)
    (naMachine_all_keys : PySem.W.findIn K (.ref CMachine) "all_keys" = some none)
    (naMachine__ways : PySem.W.findIn K (.ref CMachine) "_ways" = some none)
    (aMachine_init : PySem.W.findIn K (.ref CMachine) "__init__" = some (some (.ref fMachine_init)))
    (iMachine_init : PySem.W.isFn K (.ref fMachine_init) = true)
    (lMachine_init : K.lookup fMachine_init = some ⟨ocMachine_init, odMachine_init, .func (PySem.W.fnOf "__init__" "Machine.__init__" (defArgs s_init) (defBody s_init) (defScope s_init) .none kVMachine_init dcMachine_init pmMachine_init anMachine_init cdMachine_init ctMachine_init), slMachine_init⟩)
    (cMachine_init : PySem.W.codeIn K cdMachine_init "Machine.__init__" = true)
    (kMachine_init : PySem.W.keepIn K (.ref fMachine_init) = true)
    (aMachine_str : PySem.W.findIn K (.ref CMachine) "__str__" = some (some (.ref fMachine_str)))
    (iMachine_str : PySem.W.isFn K (.ref fMachine_str) = true)
    (lMachine_str : K.lookup fMachine_str = some ⟨ocMachine_str, odMachine_str, .func (PySem.W.fnOf "__str__" "Machine.__str__" (defArgs s_Machine___str__) (defBody s_Machine___str__) (defScope s_Machine___str__) .none kVMachine_str dcMachine_str pmMachine_str anMachine_str cdMachine_str ctMachine_str), slMachine_str⟩)
    (cMachine_str : PySem.W.codeIn K cdMachine_str "Machine.__str__" = true)
    (kMachine_str : PySem.W.keepIn K (.ref fMachine_str) = true)
    (rdMachine : PySem.W.readsIn K CMachine (.type "type") = true)
    (gaMachine : PySem.W.specialIn K (.ref CMachine) "__getattribute__" = some (some (.builtin "type.__getattribute__")))
    (cmRead : PySem.W.findCls K (.ref CMachine) (.type "type") "read" = some (.get (.builtin "classmethod.__get__") (.ref prRead) .none (.ref CMachine)))
    (rcRead : PySem.W.recIn K prRead "classmethod" = some (.ref fMachine_read :: restRead))
    (fiRead : PySem.W.fnIn K fMachine_read = true)
    (lMachine_read : K.lookup fMachine_read = some ⟨ocMachine_read, odMachine_read, .func (PySem.W.fnOf "read" "Machine.read" (defArgs s_Machine_read) (defBody s_Machine_read) (defScope s_Machine_read) .none kVMachine_read dcMachine_read pmMachine_read anMachine_read cdMachine_read ctMachine_read), slMachine_read⟩)
    (cMachine_read : PySem.W.codeIn K cdMachine_read "Machine.read" = true)
    (kMachine_read : PySem.W.keepIn K (.ref fMachine_read) = true)
    (ais_whole : PySem.W.nsIn K mainGlobals "is_whole" = some (some (.ref fis_whole)))
    (lis_whole : K.lookup fis_whole = some ⟨ocis_whole, odis_whole, .func (PySem.W.fnOf "is_whole" "is_whole" (defArgs s_is_whole) (defBody s_is_whole) (defScope s_is_whole) .none kVis_whole dcis_whole pmis_whole anis_whole cdis_whole ctis_whole), slis_whole⟩)
    (cis_whole : PySem.W.codeIn K cdis_whole "is_whole" = true)
    (kis_whole : PySem.W.keepIn K (.ref fis_whole) = true)
    (aare_signs : PySem.W.nsIn K mainGlobals "are_signs" = some (some (.ref fare_signs)))
    (lare_signs : K.lookup fare_signs = some ⟨ocare_signs, odare_signs, .func (PySem.W.fnOf "are_signs" "are_signs" (defArgs s_are_signs) (defBody s_are_signs) (defScope s_are_signs) .none kVare_signs dcare_signs pmare_signs anare_signs cdare_signs ctare_signs), slare_signs⟩)
    (care_signs : PySem.W.codeIn K cdare_signs "are_signs" = true)
    (kare_signs : PySem.W.keepIn K (.ref fare_signs) = true)
    (ais_key : PySem.W.nsIn K mainGlobals "is_key" = some (some (.ref fis_key)))
    (lis_key : K.lookup fis_key = some ⟨ocis_key, odis_key, .func (PySem.W.fnOf "is_key" "is_key" (defArgs s_is_key) (defBody s_is_key) (defScope s_is_key) .none kVis_key dcis_key pmis_key anis_key cdis_key ctis_key), slis_key⟩)
    (cis_key : PySem.W.codeIn K cdis_key "is_key" = true)
    (kis_key : PySem.W.keepIn K (.ref fis_key) = true)
    (akey_list : PySem.W.nsIn K mainGlobals "key_list" = some (some (.ref fkey_list)))
    (lkey_list : K.lookup fkey_list = some ⟨ockey_list, odkey_list, .func (PySem.W.fnOf "key_list" "key_list" (defArgs s_key_list) (defBody s_key_list) (defScope s_key_list) .none kVkey_list dckey_list pmkey_list ankey_list cdkey_list ctkey_list), slkey_list⟩)
    (ckey_list : PySem.W.codeIn K cdkey_list "key_list" = true)
    (kkey_list : PySem.W.keepIn K (.ref fkey_list) = true)
    (acheck_ways : PySem.W.nsIn K mainGlobals "check_ways" = some (some (.ref fcheck_ways)))
    (lcheck_ways : K.lookup fcheck_ways = some ⟨occheck_ways, odcheck_ways, .func (PySem.W.fnOf "check_ways" "check_ways" (defArgs s_check_ways) (defBody s_check_ways) (defScope s_check_ways) .none kVcheck_ways dccheck_ways pmcheck_ways ancheck_ways cdcheck_ways ctcheck_ways), slcheck_ways⟩)
    (ccheck_ways : PySem.W.codeIn K cdcheck_ways "check_ways" = true)
    (kcheck_ways : PySem.W.keepIn K (.ref fcheck_ways) = true)
    (akeys_in : PySem.W.nsIn K mainGlobals "keys_in" = some (some (.ref fkeys_in)))
    (lkeys_in : K.lookup fkeys_in = some ⟨ockeys_in, odkeys_in, .func (PySem.W.fnOf "keys_in" "keys_in" (defArgs s_keys_in) (defBody s_keys_in) (defScope s_keys_in) .none kVkeys_in dckeys_in pmkeys_in ankeys_in cdkeys_in ctkeys_in), slkeys_in⟩)
    (ckeys_in : PySem.W.codeIn K cdkeys_in "keys_in" = true)
    (kkeys_in : PySem.W.keepIn K (.ref fkeys_in) = true)
    (acopied : PySem.W.nsIn K mainGlobals "copied" = some (some (.ref fcopied)))
    (lcopied : K.lookup fcopied = some ⟨occopied, odcopied, .func (PySem.W.fnOf "copied" "copied" (defArgs s_copied) (defBody s_copied) (defScope s_copied) .none kVcopied dccopied pmcopied ancopied cdcopied ctcopied), slcopied⟩)
    (ccopied : PySem.W.codeIn K cdcopied "copied" = true)
    (kcopied : PySem.W.keepIn K (.ref fcopied) = true)
    (astate_line : PySem.W.nsIn K mainGlobals "state_line" = some (some (.ref fstate_line)))
    (lstate_line : K.lookup fstate_line = some ⟨ocstate_line, odstate_line, .func (PySem.W.fnOf "state_line" "state_line" (defArgs s_state_line) (defBody s_state_line) (defScope s_state_line) .none kVstate_line dcstate_line pmstate_line anstate_line cdstate_line ctstate_line), slstate_line⟩)
    (cstate_line : PySem.W.codeIn K cdstate_line "state_line" = true)
    (kstate_line : PySem.W.keepIn K (.ref fstate_line) = true)
    (aread_parts : PySem.W.nsIn K mainGlobals "read_parts" = some (some (.ref fread_parts)))
    (lread_parts : K.lookup fread_parts = some ⟨ocread_parts, odread_parts, .func (PySem.W.fnOf "read_parts" "read_parts" (defArgs s_read_parts) (defBody s_read_parts) (defScope s_read_parts) .none kVread_parts dcread_parts pmread_parts anread_parts cdread_parts ctread_parts), slread_parts⟩)
    (cread_parts : PySem.W.codeIn K cdread_parts "read_parts" = true)
    (kread_parts : PySem.W.keepIn K (.ref fread_parts) = true)
    (aspaced_words : PySem.W.nsIn K mainGlobals "spaced_words" = some (some (.ref fspaced_words)))
    (lspaced_words : K.lookup fspaced_words = some ⟨ocspaced_words, odspaced_words, .func (PySem.W.fnOf "spaced_words" "spaced_words" (defArgs s_spaced_words) (defBody s_spaced_words) (defScope s_spaced_words) .none kVspaced_words dcspaced_words pmspaced_words anspaced_words cdspaced_words ctspaced_words), slspaced_words⟩)
    (cspaced_words : PySem.W.codeIn K cdspaced_words "spaced_words" = true)
    (kspaced_words : PySem.W.keepIn K (.ref fspaced_words) = true)
    (aread_signs : PySem.W.nsIn K mainGlobals "read_signs" = some (some (.ref fread_signs)))
    (lread_signs : K.lookup fread_signs = some ⟨ocread_signs, odread_signs, .func (PySem.W.fnOf "read_signs" "read_signs" (defArgs s_read_signs) (defBody s_read_signs) (defScope s_read_signs) .none kVread_signs dcread_signs pmread_signs anread_signs cdread_signs ctread_signs), slread_signs⟩)
    (cread_signs : PySem.W.codeIn K cdread_signs "read_signs" = true)
    (kread_signs : PySem.W.keepIn K (.ref fread_signs) = true)
    (aread_state : PySem.W.nsIn K mainGlobals "read_state" = some (some (.ref fread_state)))
    (lread_state : K.lookup fread_state = some ⟨ocread_state, odread_state, .func (PySem.W.fnOf "read_state" "read_state" (defArgs s_read_state) (defBody s_read_state) (defScope s_read_state) .none kVread_state dcread_state pmread_state anread_state cdread_state ctread_state), slread_state⟩)
    (cread_state : PySem.W.codeIn K cdread_state "read_state" = true)
    (kread_state : PySem.W.keepIn K (.ref fread_state) = true)
    (aread_way : PySem.W.nsIn K mainGlobals "read_way" = some (some (.ref fread_way)))
    (lread_way : K.lookup fread_way = some ⟨ocread_way, odread_way, .func (PySem.W.fnOf "read_way" "read_way" (defArgs s_read_way) (defBody s_read_way) (defScope s_read_way) .none kVread_way dcread_way pmread_way anread_way cdread_way ctread_way), slread_way⟩)
    (cread_way : PySem.W.codeIn K cdread_way "read_way" = true)
    (kread_way : PySem.W.keepIn K (.ref fread_way) = true)
    (aare_keys : PySem.W.nsIn K mainGlobals "are_keys" = some (some (.ref fare_keys)))
    (lare_keys : K.lookup fare_keys = some ⟨ocare_keys, odare_keys, .func (PySem.W.fnOf "are_keys" "are_keys" (defArgs s_are_keys) (defBody s_are_keys) (defScope s_are_keys) .none kVare_keys dcare_keys pmare_keys anare_keys cdare_keys ctare_keys), slare_keys⟩)
    (care_keys : PySem.W.codeIn K cdare_keys "are_keys" = true)
    (kare_keys : PySem.W.keepIn K (.ref fare_keys) = true)
    (a_law_pen : PySem.W.nsIn K mainGlobals "_law_pen" = some (some (.ref f_law_pen)))
    (l_law_pen : K.lookup f_law_pen = some ⟨oc_law_pen, od_law_pen, .func (PySem.W.fnOf "_law_pen" "_law_pen" (defArgs s__law_pen) (defBody s__law_pen) (defScope s__law_pen) .none kV_law_pen dc_law_pen pm_law_pen an_law_pen cd_law_pen ct_law_pen), sl_law_pen⟩)
    (c_law_pen : PySem.W.codeIn K cd_law_pen "_law_pen" = true)
    (k_law_pen : PySem.W.keepIn K (.ref f_law_pen) = true)
    (a_law_draw : PySem.W.nsIn K mainGlobals "_law_draw" = some (some (.ref f_law_draw)))
    (l_law_draw : K.lookup f_law_draw = some ⟨oc_law_draw, od_law_draw, .func (PySem.W.fnOf "_law_draw" "_law_draw" (defArgs s__law_draw) (defBody s__law_draw) (defScope s__law_draw) .none kV_law_draw dc_law_draw pm_law_draw an_law_draw cd_law_draw ct_law_draw), sl_law_draw⟩)
    (c_law_draw : PySem.W.codeIn K cd_law_draw "_law_draw" = true)
    (k_law_draw : PySem.W.keepIn K (.ref f_law_draw) = true)
    (a_law_pick : PySem.W.nsIn K mainGlobals "_law_pick" = some (some (.ref f_law_pick)))
    (l_law_pick : K.lookup f_law_pick = some ⟨oc_law_pick, od_law_pick, .func (PySem.W.fnOf "_law_pick" "_law_pick" (defArgs s__law_pick) (defBody s__law_pick) (defScope s__law_pick) .none kV_law_pick dc_law_pick pm_law_pick an_law_pick cd_law_pick ct_law_pick), sl_law_pick⟩)
    (c_law_pick : PySem.W.codeIn K cd_law_pick "_law_pick" = true)
    (k_law_pick : PySem.W.keepIn K (.ref f_law_pick) = true)
    (a_law_signs : PySem.W.nsIn K mainGlobals "_law_signs" = some (some (.ref f_law_signs)))
    (l_law_signs : K.lookup f_law_signs = some ⟨oc_law_signs, od_law_signs, .func (PySem.W.fnOf "_law_signs" "_law_signs" (defArgs s__law_signs) (defBody s__law_signs) (defScope s__law_signs) .none kV_law_signs dc_law_signs pm_law_signs an_law_signs cd_law_signs ct_law_signs), sl_law_signs⟩)
    (c_law_signs : PySem.W.codeIn K cd_law_signs "_law_signs" = true)
    (k_law_signs : PySem.W.keepIn K (.ref f_law_signs) = true)
    (a_law_keys : PySem.W.nsIn K mainGlobals "_law_keys" = some (some (.ref f_law_keys)))
    (l_law_keys : K.lookup f_law_keys = some ⟨oc_law_keys, od_law_keys, .func (PySem.W.fnOf "_law_keys" "_law_keys" (defArgs s__law_keys) (defBody s__law_keys) (defScope s__law_keys) .none kV_law_keys dc_law_keys pm_law_keys an_law_keys cd_law_keys ct_law_keys), sl_law_keys⟩)
    (c_law_keys : PySem.W.codeIn K cd_law_keys "_law_keys" = true)
    (k_law_keys : PySem.W.keepIn K (.ref f_law_keys) = true)
    (a_law_tables : PySem.W.nsIn K mainGlobals "_law_tables" = some (some (.ref f_law_tables)))
    (l_law_tables : K.lookup f_law_tables = some ⟨oc_law_tables, od_law_tables, .func (PySem.W.fnOf "_law_tables" "_law_tables" (defArgs s__law_tables) (defBody s__law_tables) (defScope s__law_tables) .none kV_law_tables dc_law_tables pm_law_tables an_law_tables cd_law_tables ct_law_tables), sl_law_tables⟩)
    (c_law_tables : PySem.W.codeIn K cd_law_tables "_law_tables" = true)
    (k_law_tables : PySem.W.keepIn K (.ref f_law_tables) = true)
    (a_law_are_keys : PySem.W.nsIn K mainGlobals "_law_are_keys" = some (some (.ref f_law_are_keys)))
    (l_law_are_keys : K.lookup f_law_are_keys = some ⟨oc_law_are_keys, od_law_are_keys, .func (PySem.W.fnOf "_law_are_keys" "_law_are_keys" (defArgs s__law_are_keys) (defBody s__law_are_keys) (defScope s__law_are_keys) .none kV_law_are_keys dc_law_are_keys pm_law_are_keys an_law_are_keys cd_law_are_keys ct_law_are_keys), sl_law_are_keys⟩)
    (c_law_are_keys : PySem.W.codeIn K cd_law_are_keys "_law_are_keys" = true)
    (k_law_are_keys : PySem.W.keepIn K (.ref f_law_are_keys) = true)
    (a_law_way : PySem.W.nsIn K mainGlobals "_law_way" = some (some (.ref f_law_way)))
    (l_law_way : K.lookup f_law_way = some ⟨oc_law_way, od_law_way, .func (PySem.W.fnOf "_law_way" "_law_way" (defArgs s__law_way) (defBody s__law_way) (defScope s__law_way) .none kV_law_way dc_law_way pm_law_way an_law_way cd_law_way ct_law_way), sl_law_way⟩)
    (c_law_way : PySem.W.codeIn K cd_law_way "_law_way" = true)
    (k_law_way : PySem.W.keepIn K (.ref f_law_way) = true)
    (a_law_due : PySem.W.nsIn K mainGlobals "_law_due" = some (some (.ref f_law_due)))
    (l_law_due : K.lookup f_law_due = some ⟨oc_law_due, od_law_due, .func (PySem.W.fnOf "_law_due" "_law_due" (defArgs s__law_due) (defBody s__law_due) (defScope s__law_due) .none kV_law_due dc_law_due pm_law_due an_law_due cd_law_due ct_law_due), sl_law_due⟩)
    (c_law_due : PySem.W.codeIn K cd_law_due "_law_due" = true)
    (k_law_due : PySem.W.keepIn K (.ref f_law_due) = true)
    (a_law_counted : PySem.W.nsIn K mainGlobals "_law_counted" = some (some (.ref f_law_counted)))
    (l_law_counted : K.lookup f_law_counted = some ⟨oc_law_counted, od_law_counted, .func (PySem.W.fnOf "_law_counted" "_law_counted" (defArgs s__law_counted) (defBody s__law_counted) (defScope s__law_counted) .none kV_law_counted dc_law_counted pm_law_counted an_law_counted cd_law_counted ct_law_counted), sl_law_counted⟩)
    (c_law_counted : PySem.W.codeIn K cd_law_counted "_law_counted" = true)
    (k_law_counted : PySem.W.keepIn K (.ref f_law_counted) = true)
    (a_law_told : PySem.W.nsIn K mainGlobals "_law_told" = some (some (.ref f_law_told)))
    (l_law_told : K.lookup f_law_told = some ⟨oc_law_told, od_law_told, .func (PySem.W.fnOf "_law_told" "_law_told" (defArgs s__law_told) (defBody s__law_told) (defScope s__law_told) .none kV_law_told dc_law_told pm_law_told an_law_told cd_law_told ct_law_told), sl_law_told⟩)
    (c_law_told : PySem.W.codeIn K cd_law_told "_law_told" = true)
    (k_law_told : PySem.W.keepIn K (.ref f_law_told) = true)
    (a_law_bent : PySem.W.nsIn K mainGlobals "_law_bent" = some (some (.ref f_law_bent)))
    (l_law_bent : K.lookup f_law_bent = some ⟨oc_law_bent, od_law_bent, .func (PySem.W.fnOf "_law_bent" "_law_bent" (defArgs s__law_bent) (defBody s__law_bent) (defScope s__law_bent) .none kV_law_bent dc_law_bent pm_law_bent an_law_bent cd_law_bent ct_law_bent), sl_law_bent⟩)
    (c_law_bent : PySem.W.codeIn K cd_law_bent "_law_bent" = true)
    (k_law_bent : PySem.W.keepIn K (.ref f_law_bent) = true)
    (alaw : PySem.W.nsIn K mainGlobals "law" = some (some (.ref flaw)))
    (llaw : K.lookup flaw = some ⟨oclaw, odlaw, .func (PySem.W.fnOf "law" "law" (defArgs s_law) (defBody s_law) (defScope s_law) .none kVlaw dclaw pmlaw anlaw cdlaw ctlaw), sllaw⟩)
    (claw : PySem.W.codeIn K cdlaw "law" = true)
    (klaw : PySem.W.keepIn K (.ref flaw) = true)
    (gMOST_KEYS : PySem.W.nsIn K mainGlobals "MOST_KEYS" = some (some (.int 12 tMOST_KEYS)))
    (gLONGEST_KEY : PySem.W.nsIn K mainGlobals "LONGEST_KEY" = some (some (.int 12 tLONGEST_KEY)))
    (gMOST_SIGNS : PySem.W.nsIn K mainGlobals "MOST_SIGNS" = some (some (.int 4 tMOST_SIGNS)))
    (gMOST_STATES : PySem.W.nsIn K mainGlobals "MOST_STATES" = some (some (.int 16 tMOST_STATES)))
    (gKEY_LETTERS : PySem.W.nsIn K mainGlobals "KEY_LETTERS" = some (some (.str "abcdefghijklmnopqrstuvwxyz0123456789" tKEY_LETTERS)))
    (gLETTERS : PySem.W.nsIn K mainGlobals "LETTERS" = some (some (.str "abcdefghijklmnopqrstuvwxyz" tLETTERS)))
    (z_isinstance : PySem.W.nsIn K mainGlobals "isinstance" = some none)
    (z_list : PySem.W.nsIn K mainGlobals "list" = some none)
    (z_tuple : PySem.W.nsIn K mainGlobals "tuple" = some none)
    (z_dict : PySem.W.nsIn K mainGlobals "dict" = some none)
    (z_int : PySem.W.nsIn K mainGlobals "int" = some none)
    (z_bool : PySem.W.nsIn K mainGlobals "bool" = some none)
    (z_len : PySem.W.nsIn K mainGlobals "len" = some none)
    (z_set : PySem.W.nsIn K mainGlobals "set" = some none)
    (z_sorted : PySem.W.nsIn K mainGlobals "sorted" = some none)
    (z_zip : PySem.W.nsIn K mainGlobals "zip" = some none)
    (z_enumerate : PySem.W.nsIn K mainGlobals "enumerate" = some none)
    (z_range : PySem.W.nsIn K mainGlobals "range" = some none)
    (z_min : PySem.W.nsIn K mainGlobals "min" = some none)
    (z_all : PySem.W.nsIn K mainGlobals "all" = some none)
    (z_str : PySem.W.nsIn K mainGlobals "str" = some none)
    (z_sum : PySem.W.nsIn K mainGlobals "sum" = some none)
    : ∃ fd : FuncData, (∀ (s : Shared) (v : Value), BindsTo s fd ⟨[v], []⟩ [("script", v)]) ∧ ∀ base : Heap, K.In base → base.Ns mainGlobals mg → FnOk l.prog w K mg base CX0 9 fa fd ["script"] (spLaw K) := by
  have e : flaw = fa := Value.ref.inj (Option.some.inj ((PySem.W.mg_of X G alaw).symm.trans hfa))
  subst e
  have E_BadText : ErrC K mg "BadText" CBadText M := err_mk (PySem.W.mg_of X G aCBadText) xLBadText saBadText gaBadText ggBadText hcBadText hn ht kCBadText
  have FI_BadText := fun_mk (st := s_BadText) lIBadText cIBadText kIBadText
  have I_BadText : IniT K "BadText.__init__" s_BadText CBadText IBadText _ ["self", "line"] := ⟨iCBadText, tIBadText, FI_BadText, FI_BadText.binds (ps := ["self", "line"]) fun _ _ _ _ _ _ us hl => match us, hl with | [_, _], _ => rfl⟩
  have E_BadMachine : ErrC K mg "BadMachine" CBadMachine M := err_mk (PySem.W.mg_of X G aCBadMachine) xLBadMachine saBadMachine gaBadMachine ggBadMachine hcBadMachine hn ht kCBadMachine
  have FI_BadMachine := fun_mk (st := s_BadMachine) lIBadMachine cIBadMachine kIBadMachine
  have I_BadMachine : IniT K "BadMachine.__init__" s_BadMachine CBadMachine IBadMachine _ ["self", "state", "place"] := ⟨iCBadMachine, tIBadMachine, FI_BadMachine, FI_BadMachine.binds (ps := ["self", "state", "place"]) fun _ _ _ _ _ _ us hl => match us, hl with | [_, _, _], _ => rfl⟩
  have E_TooMany : ErrC K mg "TooMany" CTooMany M := err_mk (PySem.W.mg_of X G aCTooMany) xLTooMany saTooMany gaTooMany ggTooMany hcTooMany hn ht kCTooMany
  have FI_TooMany := fun_mk (st := s_TooMany) lITooMany cITooMany kITooMany
  have I_TooMany : IniT K "TooMany.__init__" s_TooMany CTooMany ITooMany _ ["self", "what"] := ⟨iCTooMany, tITooMany, FI_TooMany, FI_TooMany.binds (ps := ["self", "what"]) fun _ _ _ _ _ _ us hl => match us, hl with | [_, _], _ => rfl⟩
  have x_BadText_BadText : PySem.W.exmOne K (.ref CBadText) (.ref CBadText) = some true := PySem.W.exm_ref ((E_BadText.sub (.type "BaseException")).trans rfl) E_BadText.exc.hd E_BadText.oex.tyC s_BadText_BadText
  have x_TooMany_BadText : PySem.W.exmOne K (.ref CTooMany) (.ref CBadText) = some false := PySem.W.exm_ref ((E_BadText.sub (.type "BaseException")).trans rfl) E_BadText.exc.hd E_BadText.oex.tyC s_TooMany_BadText
  have x_TooMany_TooMany : PySem.W.exmOne K (.ref CTooMany) (.ref CTooMany) = some true := PySem.W.exm_ref ((E_TooMany.sub (.type "BaseException")).trans rfl) E_TooMany.exc.hd E_TooMany.oex.tyC s_TooMany_TooMany
  have cl_Machine : Cls K CMachine := ⟨pgMachine, hdMachine, poMachine, saMachine⟩
  have F_Machine_init := fun_mk (st := s_init) lMachine_init cMachine_init kMachine_init
  have b_Machine_init := F_Machine_init.binds (ps := ["self", "signs", "rows", "ends"]) fun _ _ _ _ _ _ us hl => match us, hl with | [_, _, _, _], _ => rfl
  have mk_Machine : Mk K CMachine fMachine_init := ⟨mkMachine, aMachine_init, iMachine_init, kcMachine⟩
  have F_Machine_str := fun_mk (st := s_Machine___str__) lMachine_str cMachine_str kMachine_str
  have b_Machine_str := F_Machine_str.binds (ps := ["self"]) fun _ _ _ _ _ _ us hl => match us, hl with | [_], _ => rfl
  have m_Machine_str : Meth K CMachine "__str__" fMachine_str := ⟨aMachine_str, iMachine_str, kMachine_str⟩
  have F_Machine_read := fun_mk (st := s_Machine_read) lMachine_read cMachine_read kMachine_read
  have b_Machine_read := F_Machine_read.binds (ps := ["cls", "text"]) fun _ _ _ _ _ _ us hl => match us, hl with | [_, _], _ => rfl
  have Fis_whole := fun_mk (st := s_is_whole) lis_whole cis_whole kis_whole
  have Dis_whole : DefT K mg "is_whole" "is_whole" s_is_whole ["value"] fis_whole _ := ⟨PySem.W.mg_of X G ais_whole, Fis_whole, Fis_whole.binds (ps := ["value"]) fun _ _ _ _ _ _ us hl => match us, hl with | [_], _ => rfl⟩
  have Fare_signs := fun_mk (st := s_are_signs) lare_signs care_signs kare_signs
  have Dare_signs : DefT K mg "are_signs" "are_signs" s_are_signs ["word"] fare_signs _ := ⟨PySem.W.mg_of X G aare_signs, Fare_signs, Fare_signs.binds (ps := ["word"]) fun _ _ _ _ _ _ us hl => match us, hl with | [_], _ => rfl⟩
  have Fis_key := fun_mk (st := s_is_key) lis_key cis_key kis_key
  have Dis_key : DefT K mg "is_key" "is_key" s_is_key ["word"] fis_key _ := ⟨PySem.W.mg_of X G ais_key, Fis_key, Fis_key.binds (ps := ["word"]) fun _ _ _ _ _ _ us hl => match us, hl with | [_], _ => rfl⟩
  have Fkey_list := fun_mk (st := s_key_list) lkey_list ckey_list kkey_list
  have Dkey_list : DefT K mg "key_list" "key_list" s_key_list ["given"] fkey_list _ := ⟨PySem.W.mg_of X G akey_list, Fkey_list, Fkey_list.binds (ps := ["given"]) fun _ _ _ _ _ _ us hl => match us, hl with | [_], _ => rfl⟩
  have Fcheck_ways := fun_mk (st := s_check_ways) lcheck_ways ccheck_ways kcheck_ways
  have Dcheck_ways : DefT K mg "check_ways" "check_ways" s_check_ways ["rows"] fcheck_ways _ := ⟨PySem.W.mg_of X G acheck_ways, Fcheck_ways, Fcheck_ways.binds (ps := ["rows"]) fun _ _ _ _ _ _ us hl => match us, hl with | [_], _ => rfl⟩
  have Fkeys_in := fun_mk (st := s_keys_in) lkeys_in ckeys_in kkeys_in
  have Dkeys_in : DefT K mg "keys_in" "keys_in" s_keys_in ["rows", "ends"] fkeys_in _ := ⟨PySem.W.mg_of X G akeys_in, Fkeys_in, Fkeys_in.binds (ps := ["rows", "ends"]) fun _ _ _ _ _ _ us hl => match us, hl with | [_, _], _ => rfl⟩
  have Fcopied := fun_mk (st := s_copied) lcopied ccopied kcopied
  have Dcopied : DefT K mg "copied" "copied" s_copied ["field"] fcopied _ := ⟨PySem.W.mg_of X G acopied, Fcopied, Fcopied.binds (ps := ["field"]) fun _ _ _ _ _ _ us hl => match us, hl with | [_], _ => rfl⟩
  have Fstate_line := fun_mk (st := s_state_line) lstate_line cstate_line kstate_line
  have Dstate_line : DefT K mg "state_line" "state_line" s_state_line ["ways", "end"] fstate_line _ := ⟨PySem.W.mg_of X G astate_line, Fstate_line, Fstate_line.binds (ps := ["ways", "end"]) fun _ _ _ _ _ _ us hl => match us, hl with | [_, _], _ => rfl⟩
  have Fread_parts := fun_mk (st := s_read_parts) lread_parts cread_parts kread_parts
  have Dread_parts : DefT K mg "read_parts" "read_parts" s_read_parts ["text"] fread_parts _ := ⟨PySem.W.mg_of X G aread_parts, Fread_parts, Fread_parts.binds (ps := ["text"]) fun _ _ _ _ _ _ us hl => match us, hl with | [_], _ => rfl⟩
  have Fspaced_words := fun_mk (st := s_spaced_words) lspaced_words cspaced_words kspaced_words
  have Dspaced_words : DefT K mg "spaced_words" "spaced_words" s_spaced_words ["line"] fspaced_words _ := ⟨PySem.W.mg_of X G aspaced_words, Fspaced_words, Fspaced_words.binds (ps := ["line"]) fun _ _ _ _ _ _ us hl => match us, hl with | [_], _ => rfl⟩
  have Fread_signs := fun_mk (st := s_read_signs) lread_signs cread_signs kread_signs
  have Dread_signs : DefT K mg "read_signs" "read_signs" s_read_signs ["line"] fread_signs _ := ⟨PySem.W.mg_of X G aread_signs, Fread_signs, Fread_signs.binds (ps := ["line"]) fun _ _ _ _ _ _ us hl => match us, hl with | [_], _ => rfl⟩
  have Fread_state := fun_mk (st := s_read_state) lread_state cread_state kread_state
  have Dread_state : DefT K mg "read_state" "read_state" s_read_state ["line", "many", "states"] fread_state _ := ⟨PySem.W.mg_of X G aread_state, Fread_state, Fread_state.binds (ps := ["line", "many", "states"]) fun _ _ _ _ _ _ us hl => match us, hl with | [_, _, _], _ => rfl⟩
  have Fread_way := fun_mk (st := s_read_way) lread_way cread_way kread_way
  have Dread_way : DefT K mg "read_way" "read_way" s_read_way ["word", "states"] fread_way _ := ⟨PySem.W.mg_of X G aread_way, Fread_way, Fread_way.binds (ps := ["word", "states"]) fun _ _ _ _ _ _ us hl => match us, hl with | [_, _], _ => rfl⟩
  have Fare_keys := fun_mk (st := s_are_keys) lare_keys care_keys kare_keys
  have Dare_keys : DefT K mg "are_keys" "are_keys" s_are_keys ["words"] fare_keys _ := ⟨PySem.W.mg_of X G aare_keys, Fare_keys, Fare_keys.binds (ps := ["words"]) fun _ _ _ _ _ _ us hl => match us, hl with | [_], _ => rfl⟩
  have F_law_pen := fun_mk (st := s__law_pen) l_law_pen c_law_pen k_law_pen
  have D_law_pen : DefT K mg "_law_pen" "_law_pen" s__law_pen ["script"] f_law_pen _ := ⟨PySem.W.mg_of X G a_law_pen, F_law_pen, F_law_pen.binds (ps := ["script"]) fun _ _ _ _ _ _ us hl => match us, hl with | [_], _ => rfl⟩
  have F_law_draw := fun_mk (st := s__law_draw) l_law_draw c_law_draw k_law_draw
  have D_law_draw : DefT K mg "_law_draw" "_law_draw" s__law_draw ["pen", "many"] f_law_draw _ := ⟨PySem.W.mg_of X G a_law_draw, F_law_draw, F_law_draw.binds (ps := ["pen", "many"]) fun _ _ _ _ _ _ us hl => match us, hl with | [_, _], _ => rfl⟩
  have F_law_pick := fun_mk (st := s__law_pick) l_law_pick c_law_pick k_law_pick
  have D_law_pick : DefT K mg "_law_pick" "_law_pick" s__law_pick ["pen", "items"] f_law_pick _ := ⟨PySem.W.mg_of X G a_law_pick, F_law_pick, F_law_pick.binds (ps := ["pen", "items"]) fun _ _ _ _ _ _ us hl => match us, hl with | [_, _], _ => rfl⟩
  have F_law_signs := fun_mk (st := s__law_signs) l_law_signs c_law_signs k_law_signs
  have D_law_signs : DefT K mg "_law_signs" "_law_signs" s__law_signs ["pen", "many"] f_law_signs _ := ⟨PySem.W.mg_of X G a_law_signs, F_law_signs, F_law_signs.binds (ps := ["pen", "many"]) fun _ _ _ _ _ _ us hl => match us, hl with | [_, _], _ => rfl⟩
  have F_law_keys := fun_mk (st := s__law_keys) l_law_keys c_law_keys k_law_keys
  have D_law_keys : DefT K mg "_law_keys" "_law_keys" s__law_keys ["pen", "words"] f_law_keys _ := ⟨PySem.W.mg_of X G a_law_keys, F_law_keys, F_law_keys.binds (ps := ["pen", "words"]) fun _ _ _ _ _ _ us hl => match us, hl with | [_, _], _ => rfl⟩
  have F_law_tables := fun_mk (st := s__law_tables) l_law_tables c_law_tables k_law_tables
  have D_law_tables : DefT K mg "_law_tables" "_law_tables" s__law_tables ["pen", "signs", "most", "words"] f_law_tables _ := ⟨PySem.W.mg_of X G a_law_tables, F_law_tables, F_law_tables.binds (ps := ["pen", "signs", "most", "words"]) fun _ _ _ _ _ _ us hl => match us, hl with | [_, _, _, _], _ => rfl⟩
  have F_law_are_keys := fun_mk (st := s__law_are_keys) l_law_are_keys c_law_are_keys k_law_are_keys
  have D_law_are_keys : DefT K mg "_law_are_keys" "_law_are_keys" s__law_are_keys ["words"] f_law_are_keys _ := ⟨PySem.W.mg_of X G a_law_are_keys, F_law_are_keys, F_law_are_keys.binds (ps := ["words"]) fun _ _ _ _ _ _ us hl => match us, hl with | [_], _ => rfl⟩
  have F_law_way := fun_mk (st := s__law_way) l_law_way c_law_way k_law_way
  have D_law_way : DefT K mg "_law_way" "_law_way" s__law_way ["word", "many"] f_law_way _ := ⟨PySem.W.mg_of X G a_law_way, F_law_way, F_law_way.binds (ps := ["word", "many"]) fun _ _ _ _ _ _ us hl => match us, hl with | [_, _], _ => rfl⟩
  have F_law_due := fun_mk (st := s__law_due) l_law_due c_law_due k_law_due
  have D_law_due : DefT K mg "_law_due" "_law_due" s__law_due ["lines"] f_law_due _ := ⟨PySem.W.mg_of X G a_law_due, F_law_due, F_law_due.binds (ps := ["lines"]) fun _ _ _ _ _ _ us hl => match us, hl with | [_], _ => rfl⟩
  have F_law_counted := fun_mk (st := s__law_counted) l_law_counted c_law_counted k_law_counted
  have D_law_counted : DefT K mg "_law_counted" "_law_counted" s__law_counted ["signs", "rows", "ends"] f_law_counted _ := ⟨PySem.W.mg_of X G a_law_counted, F_law_counted, F_law_counted.binds (ps := ["signs", "rows", "ends"]) fun _ _ _ _ _ _ us hl => match us, hl with | [_, _, _], _ => rfl⟩
  have F_law_told := fun_mk (st := s__law_told) l_law_told c_law_told k_law_told
  have D_law_told : DefT K mg "_law_told" "_law_told" s__law_told ["lines"] f_law_told _ := ⟨PySem.W.mg_of X G a_law_told, F_law_told, F_law_told.binds (ps := ["lines"]) fun _ _ _ _ _ _ us hl => match us, hl with | [_], _ => rfl⟩
  have F_law_bent := fun_mk (st := s__law_bent) l_law_bent c_law_bent k_law_bent
  have D_law_bent : DefT K mg "_law_bent" "_law_bent" s__law_bent ["pen", "lines"] f_law_bent _ := ⟨PySem.W.mg_of X G a_law_bent, F_law_bent, F_law_bent.binds (ps := ["pen", "lines"]) fun _ _ _ _ _ _ us hl => match us, hl with | [_, _], _ => rfl⟩
  have Flaw := fun_mk (st := s_law) llaw claw klaw
  have Dlaw : DefT K mg "law" "law" s_law ["script"] flaw _ := ⟨PySem.W.mg_of X G alaw, Flaw, Flaw.binds (ps := ["script"]) fun _ _ _ _ _ _ us hl => match us, hl with | [_], _ => rfl⟩
  have g_MOST_KEYS := PySem.W.mg_of X G gMOST_KEYS
  have g_LONGEST_KEY := PySem.W.mg_of X G gLONGEST_KEY
  have g_MOST_SIGNS := PySem.W.mg_of X G gMOST_SIGNS
  have g_MOST_STATES := PySem.W.mg_of X G gMOST_STATES
  have g_KEY_LETTERS := PySem.W.mg_of X G gKEY_LETTERS
  have g_LETTERS := PySem.W.mg_of X G gLETTERS
  have n_isinstance := PySem.W.mg_none_of X G z_isinstance
  have n_list := PySem.W.mg_none_of X G z_list
  have n_tuple := PySem.W.mg_none_of X G z_tuple
  have n_dict := PySem.W.mg_none_of X G z_dict
  have n_int := PySem.W.mg_none_of X G z_int
  have n_bool := PySem.W.mg_none_of X G z_bool
  have n_len := PySem.W.mg_none_of X G z_len
  have n_set := PySem.W.mg_none_of X G z_set
  have n_sorted := PySem.W.mg_none_of X G z_sorted
  have n_zip := PySem.W.mg_none_of X G z_zip
  have n_enumerate := PySem.W.mg_none_of X G z_enumerate
  have n_range := PySem.W.mg_none_of X G z_range
  have n_min := PySem.W.mg_none_of X G z_min
  have n_all := PySem.W.mg_none_of X G z_all
  have n_str := PySem.W.mg_none_of X G z_str
  have n_sum := PySem.W.mg_none_of X G z_sum
  let A : EAd := { M := M, c1 := CBadMachine, c2 := CTooMany, i1 := IBadMachine, i2 := ITooMany, e1 := PySem.W.fnOf "__init__" "BadMachine.__init__" (defArgs s_BadMachine) (defBody s_BadMachine) (defScope s_BadMachine) .none kViBadMachine dciBadMachine pmiBadMachine aniBadMachine cdiBadMachine ctiBadMachine, e2 := PySem.W.fnOf "__init__" "TooMany.__init__" (defArgs s_TooMany) (defBody s_TooMany) (defScope s_TooMany) .none kViTooMany dciTooMany pmiTooMany aniTooMany cdiTooMany ctiTooMany, fc := fcopied, dc := PySem.W.fnOf "copied" "copied" (defArgs s_copied) (defBody s_copied) (defScope s_copied) .none kVcopied dccopied pmcopied ancopied cdcopied ctcopied }
  have TE : TxtE K mg A := ⟨E_BadMachine, I_BadMachine, nfBadMachine_state, nfBadMachine_place, E_TooMany, I_TooMany, nfTooMany_what, Dcopied, n_isinstance, n_list, n_tuple, n_dict⟩
  let B : MAd := { f1 := fis_whole, f2 := fkey_list, f3 := fcheck_ways, f4 := fkeys_in, d1 := PySem.W.fnOf "is_whole" "is_whole" (defArgs s_is_whole) (defBody s_is_whole) (defScope s_is_whole) .none kVis_whole dcis_whole pmis_whole anis_whole cdis_whole ctis_whole, d2 := PySem.W.fnOf "key_list" "key_list" (defArgs s_key_list) (defBody s_key_list) (defScope s_key_list) .none kVkey_list dckey_list pmkey_list ankey_list cdkey_list ctkey_list, d3 := PySem.W.fnOf "check_ways" "check_ways" (defArgs s_check_ways) (defBody s_check_ways) (defScope s_check_ways) .none kVcheck_ways dccheck_ways pmcheck_ways ancheck_ways cdcheck_ways ctcheck_ways, d4 := PySem.W.fnOf "keys_in" "keys_in" (defArgs s_keys_in) (defBody s_keys_in) (defScope s_keys_in) .none kVkeys_in dckeys_in pmkeys_in ankeys_in cdkeys_in ctkeys_in }
  have TM : TxtM K mg B := ⟨Dis_whole, Dkey_list, Dcheck_ways, Dkeys_in, n_isinstance, n_int, n_bool, n_len, n_set, n_sorted, n_tuple, n_zip, n_enumerate⟩
  let Z : CAd := { C := CMachine, f := fMachine_init, d := PySem.W.fnOf "__init__" "Machine.__init__" (defArgs s_init) (defBody s_init) (defScope s_init) .none kVMachine_init dcMachine_init pmMachine_init anMachine_init cdMachine_init ctMachine_init }
  have TC : TxtC K mg Z := ⟨cl_Machine, mk_Machine, F_Machine_init, b_Machine_init, PySem.W.mg_of X G aCMachine, naMachine_signs, naMachine_rows, naMachine_ends, naMachine_all_keys, naMachine__ways, ⟨_, g_MOST_KEYS⟩⟩
  let W : TAd := { fk := fis_key, fa := fare_keys, fl := fstate_line, fs := fspaced_words, dk := PySem.W.fnOf "is_key" "is_key" (defArgs s_is_key) (defBody s_is_key) (defScope s_is_key) .none kVis_key dcis_key pmis_key anis_key cdis_key ctis_key, da := PySem.W.fnOf "are_keys" "are_keys" (defArgs s_are_keys) (defBody s_are_keys) (defScope s_are_keys) .none kVare_keys dcare_keys pmare_keys anare_keys cdare_keys ctare_keys, dl := PySem.W.fnOf "state_line" "state_line" (defArgs s_state_line) (defBody s_state_line) (defScope s_state_line) .none kVstate_line dcstate_line pmstate_line anstate_line cdstate_line ctstate_line, ds := PySem.W.fnOf "spaced_words" "spaced_words" (defArgs s_spaced_words) (defBody s_spaced_words) (defScope s_spaced_words) .none kVspaced_words dcspaced_words pmspaced_words anspaced_words cdspaced_words ctspaced_words }
  have TT : TxtT K mg W := ⟨Dis_key, Dare_keys, Dstate_line, Dspaced_words, ⟨_, g_LONGEST_KEY⟩, ⟨_, g_KEY_LETTERS⟩, n_len, n_set, n_all, n_str⟩
  have TRp : TxtRp K mg W fare_signs fread_signs fread_way fread_state fread_parts (PySem.W.fnOf "are_signs" "are_signs" (defArgs s_are_signs) (defBody s_are_signs) (defScope s_are_signs) .none kVare_signs dcare_signs pmare_signs anare_signs cdare_signs ctare_signs) (PySem.W.fnOf "read_signs" "read_signs" (defArgs s_read_signs) (defBody s_read_signs) (defScope s_read_signs) .none kVread_signs dcread_signs pmread_signs anread_signs cdread_signs ctread_signs) (PySem.W.fnOf "read_way" "read_way" (defArgs s_read_way) (defBody s_read_way) (defScope s_read_way) .none kVread_way dcread_way pmread_way anread_way cdread_way ctread_way) (PySem.W.fnOf "read_state" "read_state" (defArgs s_read_state) (defBody s_read_state) (defScope s_read_state) .none kVread_state dcread_state pmread_state anread_state cdread_state ctread_state) (PySem.W.fnOf "read_parts" "read_parts" (defArgs s_read_parts) (defBody s_read_parts) (defScope s_read_parts) .none kVread_parts dcread_parts pmread_parts anread_parts cdread_parts ctread_parts) := ⟨⟨TT, Dare_signs, Dread_signs, ⟨_, g_MOST_SIGNS⟩, ⟨_, g_LETTERS⟩⟩, ⟨⟨TT, Dread_way⟩, Dread_state⟩, Dread_parts, ⟨_, g_MOST_STATES⟩, n_range⟩
  have TMs : TxtMs K mg Z fMachine_str (PySem.W.fnOf "__str__" "Machine.__str__" (defArgs s_Machine___str__) (defBody s_Machine___str__) (defScope s_Machine___str__) .none kVMachine_str dcMachine_str pmMachine_str anMachine_str cdMachine_str ctMachine_str) := ⟨aMachine_str, iMachine_str, F_Machine_str, b_Machine_str⟩
  have TRd : TxtRd K mg Z (.type "type") prRead fMachine_read (PySem.W.fnOf "read" "Machine.read" (defArgs s_Machine_read) (defBody s_Machine_read) (defScope s_Machine_read) .none kVMachine_read dcMachine_read pmMachine_read anMachine_read cdMachine_read ctMachine_read) := ⟨⟨rdMachine, gaMachine⟩, ⟨cmRead, ⟨_, rcRead⟩, fiRead⟩, F_Machine_read, b_Machine_read⟩
  let L : LAd := { f1 := f_law_signs, f2 := f_law_keys, f3 := f_law_tables, d1 := PySem.W.fnOf "_law_signs" "_law_signs" (defArgs s__law_signs) (defBody s__law_signs) (defScope s__law_signs) .none kV_law_signs dc_law_signs pm_law_signs an_law_signs cd_law_signs ct_law_signs, d2 := PySem.W.fnOf "_law_keys" "_law_keys" (defArgs s__law_keys) (defBody s__law_keys) (defScope s__law_keys) .none kV_law_keys dc_law_keys pm_law_keys an_law_keys cd_law_keys ct_law_keys, d3 := PySem.W.fnOf "_law_tables" "_law_tables" (defArgs s__law_tables) (defBody s__law_tables) (defScope s__law_tables) .none kV_law_tables dc_law_tables pm_law_tables an_law_tables cd_law_tables ct_law_tables, p1 := f_law_pen, p2 := f_law_draw, p3 := f_law_pick, q1 := PySem.W.fnOf "_law_pen" "_law_pen" (defArgs s__law_pen) (defBody s__law_pen) (defScope s__law_pen) .none kV_law_pen dc_law_pen pm_law_pen an_law_pen cd_law_pen ct_law_pen, q2 := PySem.W.fnOf "_law_draw" "_law_draw" (defArgs s__law_draw) (defBody s__law_draw) (defScope s__law_draw) .none kV_law_draw dc_law_draw pm_law_draw an_law_draw cd_law_draw ct_law_draw, q3 := PySem.W.fnOf "_law_pick" "_law_pick" (defArgs s__law_pick) (defBody s__law_pick) (defScope s__law_pick) .none kV_law_pick dc_law_pick pm_law_pick an_law_pick cd_law_pick ct_law_pick }
  have TP : TxtP K mg f_law_pen f_law_draw f_law_pick (PySem.W.fnOf "_law_pen" "_law_pen" (defArgs s__law_pen) (defBody s__law_pen) (defScope s__law_pen) .none kV_law_pen dc_law_pen pm_law_pen an_law_pen cd_law_pen ct_law_pen) (PySem.W.fnOf "_law_draw" "_law_draw" (defArgs s__law_draw) (defBody s__law_draw) (defScope s__law_draw) .none kV_law_draw dc_law_draw pm_law_draw an_law_draw cd_law_draw ct_law_draw) (PySem.W.fnOf "_law_pick" "_law_pick" (defArgs s__law_pick) (defBody s__law_pick) (defScope s__law_pick) .none kV_law_pick dc_law_pick pm_law_pick an_law_pick cd_law_pick ct_law_pick) := ⟨D_law_pen, D_law_draw, D_law_pick, n_list, n_int, n_len⟩
  have TL : TxtL K mg L := ⟨TP, D_law_signs, D_law_keys, D_law_tables, n_len, n_range, n_set, n_sorted⟩
  have TBt : TxtBt K mg A CBadText IBadText (PySem.W.fnOf "__init__" "BadText.__init__" (defArgs s_BadText) (defBody s_BadText) (defScope s_BadText) .none kViBadText dciBadText pmiBadText aniBadText cdiBadText ctiBadText) := ⟨E_BadText, I_BadText, nfBadText_line⟩
  have TTo : TxtTo K mg A CBadText f_law_told (PySem.W.fnOf "_law_told" "_law_told" (defArgs s__law_told) (defBody s__law_told) (defScope s__law_told) .none kV_law_told dc_law_told pm_law_told an_law_told cd_law_told ct_law_told) := ⟨D_law_told, x_BadText_BadText, x_TooMany_BadText, x_TooMany_TooMany⟩
  have TLd : TxtLd K mg f_law_are_keys f_law_way f_law_counted f_law_due (PySem.W.fnOf "_law_are_keys" "_law_are_keys" (defArgs s__law_are_keys) (defBody s__law_are_keys) (defScope s__law_are_keys) .none kV_law_are_keys dc_law_are_keys pm_law_are_keys an_law_are_keys cd_law_are_keys ct_law_are_keys) (PySem.W.fnOf "_law_way" "_law_way" (defArgs s__law_way) (defBody s__law_way) (defScope s__law_way) .none kV_law_way dc_law_way pm_law_way an_law_way cd_law_way ct_law_way) (PySem.W.fnOf "_law_counted" "_law_counted" (defArgs s__law_counted) (defBody s__law_counted) (defScope s__law_counted) .none kV_law_counted dc_law_counted pm_law_counted an_law_counted cd_law_counted ct_law_counted) (PySem.W.fnOf "_law_due" "_law_due" (defArgs s__law_due) (defBody s__law_due) (defScope s__law_due) .none kV_law_due dc_law_due pm_law_due an_law_due cd_law_due ct_law_due) := ⟨⟨⟨D_law_are_keys, n_len, n_set⟩, D_law_way, n_range, n_str, n_int, n_tuple, n_sorted⟩, ⟨D_law_counted, n_sum, n_list, n_len, n_set, n_tuple⟩, D_law_due, n_len, n_set⟩
  have TBn : TxtBn K mg f_law_pen f_law_draw f_law_pick f_law_bent (PySem.W.fnOf "_law_pen" "_law_pen" (defArgs s__law_pen) (defBody s__law_pen) (defScope s__law_pen) .none kV_law_pen dc_law_pen pm_law_pen an_law_pen cd_law_pen ct_law_pen) (PySem.W.fnOf "_law_draw" "_law_draw" (defArgs s__law_draw) (defBody s__law_draw) (defScope s__law_draw) .none kV_law_draw dc_law_draw pm_law_draw an_law_draw cd_law_draw ct_law_draw) (PySem.W.fnOf "_law_pick" "_law_pick" (defArgs s__law_pick) (defBody s__law_pick) (defScope s__law_pick) .none kV_law_pick dc_law_pick pm_law_pick an_law_pick cd_law_pick ct_law_pick) (PySem.W.fnOf "_law_bent" "_law_bent" (defArgs s__law_bent) (defBody s__law_bent) (defScope s__law_bent) .none kV_law_bent dc_law_bent pm_law_bent an_law_bent cd_law_bent ct_law_bent) := ⟨TP, D_law_bent, n_len⟩
  let D : DAd := { f1 := fare_signs, f2 := fread_signs, f3 := fread_way, f4 := fread_state, f5 := fread_parts, d1 := PySem.W.fnOf "are_signs" "are_signs" (defArgs s_are_signs) (defBody s_are_signs) (defScope s_are_signs) .none kVare_signs dcare_signs pmare_signs anare_signs cdare_signs ctare_signs, d2 := PySem.W.fnOf "read_signs" "read_signs" (defArgs s_read_signs) (defBody s_read_signs) (defScope s_read_signs) .none kVread_signs dcread_signs pmread_signs anread_signs cdread_signs ctread_signs, d3 := PySem.W.fnOf "read_way" "read_way" (defArgs s_read_way) (defBody s_read_way) (defScope s_read_way) .none kVread_way dcread_way pmread_way anread_way cdread_way ctread_way, d4 := PySem.W.fnOf "read_state" "read_state" (defArgs s_read_state) (defBody s_read_state) (defScope s_read_state) .none kVread_state dcread_state pmread_state anread_state cdread_state ctread_state, d5 := PySem.W.fnOf "read_parts" "read_parts" (defArgs s_read_parts) (defBody s_read_parts) (defScope s_read_parts) .none kVread_parts dcread_parts pmread_parts anread_parts cdread_parts ctread_parts, C := CBadText, I := IBadText, eb := PySem.W.fnOf "__init__" "BadText.__init__" (defArgs s_BadText) (defBody s_BadText) (defScope s_BadText) .none kViBadText dciBadText pmiBadText aniBadText cdiBadText ctiBadText, fs := fMachine_str, ds := PySem.W.fnOf "__str__" "Machine.__str__" (defArgs s_Machine___str__) (defBody s_Machine___str__) (defScope s_Machine___str__) .none kVMachine_str dcMachine_str pmMachine_str anMachine_str cdMachine_str ctMachine_str, fr := fMachine_read, dr := PySem.W.fnOf "read" "Machine.read" (defArgs s_Machine_read) (defBody s_Machine_read) (defScope s_Machine_read) .none kVMachine_read dcMachine_read pmMachine_read anMachine_read cdMachine_read ctMachine_read, ft := f_law_told, dt := PySem.W.fnOf "_law_told" "_law_told" (defArgs s__law_told) (defBody s__law_told) (defScope s__law_told) .none kV_law_told dc_law_told pm_law_told an_law_told cd_law_told ct_law_told, fk := f_law_are_keys, fw := f_law_way, fc := f_law_counted, fu := f_law_due, dk := PySem.W.fnOf "_law_are_keys" "_law_are_keys" (defArgs s__law_are_keys) (defBody s__law_are_keys) (defScope s__law_are_keys) .none kV_law_are_keys dc_law_are_keys pm_law_are_keys an_law_are_keys cd_law_are_keys ct_law_are_keys, dw := PySem.W.fnOf "_law_way" "_law_way" (defArgs s__law_way) (defBody s__law_way) (defScope s__law_way) .none kV_law_way dc_law_way pm_law_way an_law_way cd_law_way ct_law_way, dc := PySem.W.fnOf "_law_counted" "_law_counted" (defArgs s__law_counted) (defBody s__law_counted) (defScope s__law_counted) .none kV_law_counted dc_law_counted pm_law_counted an_law_counted cd_law_counted ct_law_counted, du := PySem.W.fnOf "_law_due" "_law_due" (defArgs s__law_due) (defBody s__law_due) (defScope s__law_due) .none kV_law_due dc_law_due pm_law_due an_law_due cd_law_due ct_law_due, fb := f_law_bent, db := PySem.W.fnOf "_law_bent" "_law_bent" (defArgs s__law_bent) (defBody s__law_bent) (defScope s__law_bent) .none kV_law_bent dc_law_bent pm_law_bent an_law_bent cd_law_bent ct_law_bent }
  have T : TxtW K mg A B Z W D L (.type "type") prRead flaw (PySem.W.fnOf "law" "law" (defArgs s_law) (defBody s_law) (defScope s_law) .none kVlaw dclaw pmlaw anlaw cdlaw ctlaw) := ⟨TM, TE, TBt, TC, TT, TRp, TMs, TRd, TTo, TLd, TBn, TL, Dlaw, n_range, n_min, n_len, n_str⟩
  exact ⟨PySem.W.fnOf "law" "law" (defArgs s_law) (defBody s_law) (defScope s_law) .none kVlaw dclaw pmlaw anlaw cdlaw ctlaw, fun s v => .of_eq rfl, fun base _ _ => ok_law T⟩
theorem walk {l : PySem.W.OpenLaw} {q : Program} {loose : List Str} {XP : (Str → Option Value) → Heap → Prop} {YP : World → Heap → Prop} {d : DefRec} {K : Params → PySem.W.Frag} (hn : l.most = some 63) (hdf : d.params.defaults = [])
    (hY : ∀ (w : World) (h : Heap), YP w h → (K w.params).In h)
    (F : ∀ (w : World) (mg : Str → Option Value) (fa : Addr) (h : Heap), (K w.params).In h → h.Ns mainGlobals mg → mg d.name = some (.ref fa) → ∃ fd : FuncData, (∀ (s : Shared) (u : Value), BindsTo s fd ⟨[u], []⟩ [("script", u)]) ∧ ∀ base : Heap, (K w.params).In base → base.Ns mainGlobals mg →
      FnOk l.prog w (K w.params) mg base CX0 9 fa fd ["script"] (spLaw (K w.params))) :
    PySem.W.WalkO q loose XP YP l.row.toRowW d [] (fun f vs => PySem.call f vs) :=
  L2.walk_of (n := 63) (k := 9) (x := "script") (CX := fun _ => CX0) (sp := fun w => spLaw (K w.params)) hn (by decide) hdf ⟨rfl, by decide, by decide⟩ hY F (fun _ _ a ns hl _ hS => ⟨a, ns, rfl, hS, hl, fun _ => rfl⟩) fun _ _ _ _ _ z => z
end Kx

open PySem PySem.W PyProof.Rows
set_option maxRecDepth 100000 in
set_option maxHeartbeats 0 in
theorem PySem.Challenge.cw_nevermiss_k06_wrong_texts_of_machines_holds : PySem.Challenge.rw_nevermiss_k06_wrong_texts_of_machines.Holds := by
  w_on; o_law; k_head; (case hw => w_witness2)
  k_fill
  refine Kx.walk (l := PySem.Challenge.rw_nevermiss_k06_wrong_texts_of_machines) rfl rfl (fun w h Y => PySem.W.kIn_of Y) ?F
  case F =>
    intro w mg fa h KX G hmg
    refine' Kx.all_mk KX G hmg ?hn ?ht ?aM ?m1 ?m2 ?m3 ?aCBadText ?xLBadText ?saBadText ?gaBadText ?ggBadText ?hcBadText ?kCBadText ?iCBadText ?tIBadText ?lIBadText ?cIBadText ?kIBadText ?nfBadText_line ?aCBadMachine ?xLBadMachine ?saBadMachine ?gaBadMachine ?ggBadMachine ?hcBadMachine ?kCBadMachine ?iCBadMachine ?tIBadMachine ?lIBadMachine ?cIBadMachine ?kIBadMachine ?nfBadMachine_state ?nfBadMachine_place ?aCTooMany ?xLTooMany ?saTooMany ?gaTooMany ?ggTooMany ?hcTooMany ?kCTooMany ?iCTooMany ?tITooMany ?lITooMany ?cITooMany ?kITooMany ?nfTooMany_what ?s_BadText_BadText ?s_TooMany_BadText ?s_TooMany_TooMany ?aCMachine ?pgMachine ?hdMachine ?poMachine ?saMachine ?mkMachine ?kcMachine ?naMachine_signs ?naMachine_rows ?naMachine_ends ?naMachine_all_keys ?naMachine__ways ?aMachine_init ?iMachine_init ?lMachine_init ?cMachine_init ?kMachine_init ?aMachine_str ?iMachine_str ?lMachine_str ?cMachine_str ?kMachine_str ?rdMachine ?gaMachine ?cmRead ?rcRead ?fiRead ?lMachine_read ?cMachine_read ?kMachine_read ?ais_whole ?lis_whole ?cis_whole ?kis_whole ?aare_signs ?lare_signs ?care_signs ?kare_signs ?ais_key ?lis_key ?cis_key ?kis_key ?akey_list ?lkey_list ?ckey_list ?kkey_list ?acheck_ways ?lcheck_ways ?ccheck_ways ?kcheck_ways ?akeys_in ?lkeys_in ?ckeys_in ?kkeys_in ?acopied ?lcopied ?ccopied ?kcopied ?astate_line ?lstate_line ?cstate_line ?kstate_line ?aread_parts ?lread_parts ?cread_parts ?kread_parts ?aspaced_words ?lspaced_words ?cspaced_words ?kspaced_words ?aread_signs ?lread_signs ?cread_signs ?kread_signs ?aread_state ?lread_state ?cread_state ?kread_state ?aread_way ?lread_way ?cread_way ?kread_way ?aare_keys ?lare_keys ?care_keys ?kare_keys ?a_law_pen ?l_law_pen ?c_law_pen ?k_law_pen ?a_law_draw ?l_law_draw ?c_law_draw ?k_law_draw ?a_law_pick ?l_law_pick ?c_law_pick ?k_law_pick ?a_law_signs ?l_law_signs ?c_law_signs ?k_law_signs ?a_law_keys ?l_law_keys ?c_law_keys ?k_law_keys ?a_law_tables ?l_law_tables ?c_law_tables ?k_law_tables ?a_law_are_keys ?l_law_are_keys ?c_law_are_keys ?k_law_are_keys ?a_law_way ?l_law_way ?c_law_way ?k_law_way ?a_law_due ?l_law_due ?c_law_due ?k_law_due ?a_law_counted ?l_law_counted ?c_law_counted ?k_law_counted ?a_law_told ?l_law_told ?c_law_told ?k_law_told ?a_law_bent ?l_law_bent ?c_law_bent ?k_law_bent ?alaw ?llaw ?claw ?klaw ?gMOST_KEYS ?gLONGEST_KEY ?gMOST_SIGNS ?gMOST_STATES ?gKEY_LETTERS ?gLETTERS ?z_isinstance ?z_list ?z_tuple ?z_dict ?z_int ?z_bool ?z_len ?z_set ?z_sorted ?z_zip ?z_enumerate ?z_range ?z_min ?z_all ?z_str ?z_sum
    (case hn => k_is)
    (case ht => k_is)
    (case aM => k_is)
    (case m1 => k_is)
    (case m2 => k_is)
    (case m3 => k_is)
    (case aCBadText => k_is)
    (case xLBadText => k_is)
    (case saBadText => k_is)
    (case gaBadText => k_is)
    (case ggBadText => k_is)
    (case hcBadText => k_is)
    (case kCBadText => k_is)
    (case iCBadText => k_is)
    (case tIBadText => k_is)
    (case lIBadText => k_is)
    (case cIBadText => k_is)
    (case kIBadText => k_is)
    (case nfBadText_line => k_is)
    (case aCBadMachine => k_is)
    (case xLBadMachine => k_is)
    (case saBadMachine => k_is)
    (case gaBadMachine => k_is)
    (case ggBadMachine => k_is)
    (case hcBadMachine => k_is)
    (case kCBadMachine => k_is)
    (case iCBadMachine => k_is)
    (case tIBadMachine => k_is)
    (case lIBadMachine => k_is)
    (case cIBadMachine => k_is)
    (case kIBadMachine => k_is)
    (case nfBadMachine_state => k_is)
    (case nfBadMachine_place => k_is)
    (case aCTooMany => k_is)
    (case xLTooMany => k_is)
    (case saTooMany => k_is)
    (case gaTooMany => k_is)
    (case ggTooMany => k_is)
    (case hcTooMany => k_is)
    (case kCTooMany => k_is)
    (case iCTooMany => k_is)
    (case tITooMany => k_is)
    (case lITooMany => k_is)
    (case cITooMany => k_is)
    (case kITooMany => k_is)
    (case nfTooMany_what => k_is)
    (case s_BadText_BadText => k_is)
    (case s_TooMany_BadText => k_is)
    (case s_TooMany_TooMany => k_is)
    (case aCMachine => k_is)
    (case pgMachine => k_is)
    (case hdMachine => k_is)
    (case poMachine => k_is)
    (case saMachine => k_is)
    (case mkMachine => k_is)
    (case kcMachine => k_is)
    (case naMachine_signs => k_is)
    (case naMachine_rows => k_is)
    (case naMachine_ends => k_is)
    (case naMachine_all_keys => k_is)
    (case naMachine__ways => k_is)
    (case aMachine_init => k_is)
    (case iMachine_init => k_is)
    (case lMachine_init => k_is)
    (case cMachine_init => k_is)
    (case kMachine_init => k_is)
    (case aMachine_str => k_is)
    (case iMachine_str => k_is)
    (case lMachine_str => k_is)
    (case cMachine_str => k_is)
    (case kMachine_str => k_is)
    (case rdMachine => k_is)
    (case gaMachine => k_is)
    (case cmRead => k_is)
    (case rcRead => k_is)
    (case fiRead => k_is)
    (case lMachine_read => k_is)
    (case cMachine_read => k_is)
    (case kMachine_read => k_is)
    (case ais_whole => k_is)
    (case lis_whole => k_is)
    (case cis_whole => k_is)
    (case kis_whole => k_is)
    (case aare_signs => k_is)
    (case lare_signs => k_is)
    (case care_signs => k_is)
    (case kare_signs => k_is)
    (case ais_key => k_is)
    (case lis_key => k_is)
    (case cis_key => k_is)
    (case kis_key => k_is)
    (case akey_list => k_is)
    (case lkey_list => k_is)
    (case ckey_list => k_is)
    (case kkey_list => k_is)
    (case acheck_ways => k_is)
    (case lcheck_ways => k_is)
    (case ccheck_ways => k_is)
    (case kcheck_ways => k_is)
    (case akeys_in => k_is)
    (case lkeys_in => k_is)
    (case ckeys_in => k_is)
    (case kkeys_in => k_is)
    (case acopied => k_is)
    (case lcopied => k_is)
    (case ccopied => k_is)
    (case kcopied => k_is)
    (case astate_line => k_is)
    (case lstate_line => k_is)
    (case cstate_line => k_is)
    (case kstate_line => k_is)
    (case aread_parts => k_is)
    (case lread_parts => k_is)
    (case cread_parts => k_is)
    (case kread_parts => k_is)
    (case aspaced_words => k_is)
    (case lspaced_words => k_is)
    (case cspaced_words => k_is)
    (case kspaced_words => k_is)
    (case aread_signs => k_is)
    (case lread_signs => k_is)
    (case cread_signs => k_is)
    (case kread_signs => k_is)
    (case aread_state => k_is)
    (case lread_state => k_is)
    (case cread_state => k_is)
    (case kread_state => k_is)
    (case aread_way => k_is)
    (case lread_way => k_is)
    (case cread_way => k_is)
    (case kread_way => k_is)
    (case aare_keys => k_is)
    (case lare_keys => k_is)
    (case care_keys => k_is)
    (case kare_keys => k_is)
    (case a_law_pen => k_is)
    (case l_law_pen => k_is)
    (case c_law_pen => k_is)
    (case k_law_pen => k_is)
    (case a_law_draw => k_is)
    (case l_law_draw => k_is)
    (case c_law_draw => k_is)
    (case k_law_draw => k_is)
    (case a_law_pick => k_is)
    (case l_law_pick => k_is)
    (case c_law_pick => k_is)
    (case k_law_pick => k_is)
    (case a_law_signs => k_is)
    (case l_law_signs => k_is)
    (case c_law_signs => k_is)
    (case k_law_signs => k_is)
    (case a_law_keys => k_is)
    (case l_law_keys => k_is)
    (case c_law_keys => k_is)
    (case k_law_keys => k_is)
    (case a_law_tables => k_is)
    (case l_law_tables => k_is)
    (case c_law_tables => k_is)
    (case k_law_tables => k_is)
    (case a_law_are_keys => k_is)
    (case l_law_are_keys => k_is)
    (case c_law_are_keys => k_is)
    (case k_law_are_keys => k_is)
    (case a_law_way => k_is)
    (case l_law_way => k_is)
    (case c_law_way => k_is)
    (case k_law_way => k_is)
    (case a_law_due => k_is)
    (case l_law_due => k_is)
    (case c_law_due => k_is)
    (case k_law_due => k_is)
    (case a_law_counted => k_is)
    (case l_law_counted => k_is)
    (case c_law_counted => k_is)
    (case k_law_counted => k_is)
    (case a_law_told => k_is)
    (case l_law_told => k_is)
    (case c_law_told => k_is)
    (case k_law_told => k_is)
    (case a_law_bent => k_is)
    (case l_law_bent => k_is)
    (case c_law_bent => k_is)
    (case k_law_bent => k_is)
    (case alaw => k_is)
    (case llaw => k_is)
    (case claw => k_is)
    (case klaw => k_is)
    (case gMOST_KEYS => k_is)
    (case gLONGEST_KEY => k_is)
    (case gMOST_SIGNS => k_is)
    (case gMOST_STATES => k_is)
    (case gKEY_LETTERS => k_is)
    (case gLETTERS => k_is)
    (case z_isinstance => k_is)
    (case z_list => k_is)
    (case z_tuple => k_is)
    (case z_dict => k_is)
    (case z_int => k_is)
    (case z_bool => k_is)
    (case z_len => k_is)
    (case z_set => k_is)
    (case z_sorted => k_is)
    (case z_zip => k_is)
    (case z_enumerate => k_is)
    (case z_range => k_is)
    (case z_min => k_is)
    (case z_all => k_is)
    (case z_str => k_is)
    (case z_sum => k_is)

